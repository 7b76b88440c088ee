import unittest
from fractions import Fraction
from itertools import product

from sourceforms import errors
from sourceforms.base.tables import rank, signature
from sourceforms.errors import InvalidForm, InvalidOperation, InvalidRatio, TooMany
from sourceforms.form.forms import Form, line_of
from sourceforms.root import reals as module
from sourceforms.root.common import bezout_table, plain_part
from sourceforms.root.reals import are_spans, count_between, definite_paper, distinct_count, is_definite_paper, real_count
from sourceforms.root.reals import sign_changes, sign_row, spans
from tests.support import BENT, CUBIC, FOUR, LET, LONG, NO_FORMS, NO_PAPERS, QUAD, SIX, Case, picker, product_of
from tests.support import some_change, some_form, some_points, whole_form
from tests.test_forms import value_of
from tests.test_ratios import NO_RATIOS

NAMES = {**vars(errors), **vars(module), "Form": Form, "QUAD": QUAD, "CUBIC": CUBIC, "FOUR": FOUR, "SIX": SIX, "BENT": BENT}
ZEROS = tuple(Form((0,) * many) for many in (1, 2, 3, 14, 41))
# What is no ratio, however long its integers may be.
WRONG = tuple(value for value in NO_RATIOS if value not in ((LONG, 1), (1, LONG), (-LONG, 1)))
# Definite forms, without common roots by pairs, and one whose roots are real and no ratios.
DEFINITE = tuple(Form(row) for row in ((1, 0, 1), (1, 1, 1), (2, -2, 3), (1, 0, 0, 0, 1), (5, 0, 7)))


def told(number):
    return (number.numerator, number.denominator)


def ratio(value):
    return Fraction(value[0], value[1])


def value_at(row, z):
    """A polynomial at a fraction, from the highest power down."""
    total = Fraction(0)
    for entry in row:
        total = total * z + entry
    return total


def reckoned_signs(form):
    """The sign row as [17.3] tells it, by fractions."""
    row = list(plain_part(form).entries)
    while row[0] == 0:
        row = row[1:]
    found = [row, [entry * (len(row) - 1 - k) for k, entry in enumerate(row[:-1])]]
    while found[-1]:
        one, other = [Fraction(part) for part in found[-2]], found[-1]
        while len(one) >= len(other):
            factor = one[0] / other[0]
            one = [a - factor * (other[k] if k < len(other) else 0) for k, a in enumerate(one)][1:]
        while one and one[0] == 0:
            one = one[1:]
        found.append([-part for part in one])
    made = []
    for part in found[:-1]:
        scale = 1
        for number in part:
            scale = scale * Fraction(number).denominator
        whole = [int(number * scale) for number in part]
        shared = 0
        for number in whole:
            while number:
                shared, number = number, shared % number
        made.append(tuple(number // abs(shared) for number in whole))
    return tuple(made)


def changes(row, z):
    signs = [value > 0 for value in (value_at(part, z) for part in row) if value]
    return sum(one != other for one, other in zip(signs, signs[1:]))


def made_forms(seed, many, most_degree=9):
    """Forms with told real roots: triples of a form, the set of its finite real roots, and whether the end is one."""
    pick = picker(seed)
    found = []
    while len(found) < many:
        points = some_points(pick, pick.randint(0, 4), 5)
        lines = [(point, pick.randint(1, 3)) for point in points]
        parts = pick.sample(DEFINITE, pick.randint(0, 2))
        form = product_of([line_of(point) for point, often in lines for _ in range(often)] + parts) * pick.choice((1, -1, 6, -35))
        if form.degree <= most_degree:
            roots = {Fraction(a, b) for (a, b), _ in lines if b}
            found.append((form, roots, (1, 0) in points, len(points) + sum(part.degree for part in parts)))
    return found


class Counts(Case, unittest.TestCase):
    def test_made_forms(self):
        for form, roots, end, many in made_forms(881, 150):
            self.assertEqual((distinct_count(form), real_count(form)), (many, len(roots) + end))

    def test_bezout_tables(self):
        """Rank and signature of the Bezout table of the derivatives."""
        pick = picker(882)
        forms = [form for form, _, _, _ in made_forms(883, 60)]
        forms += [some_form(pick, pick.randint(2, 8), pick.choice((1, 2, 9))) for _ in range(60)]
        for form in forms:
            if form.degree >= 2 and not form.is_zero:
                table = bezout_table(form.derived(0, 1), form.derived(1, 0))
                self.assertEqual((rank(table), signature(table)), (distinct_count(form) - 1, real_count(form) - 1))

    def test_changed_forms(self):
        pick = picker(884)
        for form, _, _, _ in made_forms(885, 40, 6):
            changed = form.changed(some_change(pick))
            self.assertEqual((distinct_count(changed), real_count(changed)), (distinct_count(form), real_count(form)))

    def test_small_degrees(self):
        for a, b, c in product(range(-3, 4), repeat=3):
            if a or b or c:
                d = b * b - 4 * a * c
                self.assertEqual((distinct_count(Form((a, b, c))), real_count(Form((a, b, c)))), (2 if d else 1, 1 + (d > 0) - (d < 0)))
        for a, b in ((1, 0), (0, 1), (-2, 7)):
            self.assertEqual((distinct_count(Form((a, b))), real_count(Form((a, b)))), (1, 1))
        for entry in (1, -5, LET):
            self.assertEqual((distinct_count(Form((entry,))), real_count(Form((entry,)))), (0, 0))
        for n in range(1, 41):
            self.assertEqual((distinct_count(Form((0,) * n + (3,))), real_count(Form((0,) * n + (3,)))), (1, 1))
            self.assertEqual(real_count(Form((1,) + (0,) * (n - 1) + (1,))), n % 2)
            self.assertEqual(real_count(Form((1,) + (0,) * (n - 1) + (-1,))), 2 - n % 2)

    def test_roots_beside_real_ones_stand_in_pairs(self):
        pick = picker(886)
        for _ in range(80):
            form = some_form(pick, pick.randint(1, 9), 4)
            if not form.is_zero:
                self.assertEqual((distinct_count(form) - real_count(form)) % 2, 0)
                self.assertLessEqual(real_count(form), distinct_count(form))

    def test_greatest(self):
        pick = picker(887)
        form = some_form(pick, 40, LET)
        self.assertEqual(self.soon(6, distinct_count, form), 40)
        many = self.soon(8, real_count, form)
        low, high = (-LET, 1), (LET, 1)
        self.assertEqual(self.soon(8, count_between, form, low, high), many)
        lines = product_of([Form((1, -k)) for k in range(-20, 20)])
        self.assertEqual((self.soon(8, real_count, lines), distinct_count(lines)), (40, 40))
        small = some_form(pick, 8)
        self.soon(2, lambda: [(real_count(small), distinct_count(small)) for _ in range(100)])


class Signs(Case, unittest.TestCase):
    def test_rows(self):
        pick = picker(888)
        forms = [form for form, _, _, _ in made_forms(889, 60)]
        forms += [some_form(pick, pick.randint(0, 7), pick.choice((1, 5, LET))) for _ in range(60)]
        for form in forms:
            if not form.is_zero:
                self.assertEqual(sign_row(form), reckoned_signs(form))

    def test_changes(self):
        pick = picker(890)
        for form, roots, _, _ in made_forms(891, 60):
            row = reckoned_signs(form)
            points = list(roots) + [Fraction(pick.randint(-20, 20), pick.randint(1, 7)) for _ in range(4)]
            for z in points:
                self.assertEqual(sign_changes(form, told(z)), changes(row, z))

    def test_counts(self):
        """The ends of an interval: its lower end is left out, its upper end counts."""
        pick = picker(892)
        for form, roots, _, _ in made_forms(893, 80):
            points = sorted(set(roots) | {Fraction(pick.randint(-30, 30), pick.randint(1, 6)) for _ in range(4)})
            for k, low in enumerate(points):
                for high in points[k + 1:]:
                    wanted = sum(low < root <= high for root in roots)
                    self.assertEqual(count_between(form, told(low), told(high)), wanted)

    def test_edges(self):
        for entry in (7, -7):
            self.assertEqual((sign_row(Form((entry,))), sign_changes(Form((entry,)), (1, 2))), (((1,),), 0))
            self.assertEqual(count_between(Form((entry,)), (-1, 1), (1, 1)), 0)
        self.assertEqual(sign_row(Form((-3, 6))), ((1, -2), (1,)))
        self.assertEqual(sign_row(Form((0, 0, -3, 6))), ((1, -2), (1,)))
        self.assertEqual(sign_row(Form((0, 0, 5))), ((1,),))
        self.assertEqual(sign_row(Form((1, 0, 1)))[2], (-1,))
        self.assertEqual(count_between(QUAD, (-LET, 1), (1, LET)), 1)
        self.assertEqual(sign_row(CUBIC), sign_row(CUBIC * -5))

    def test_greatest(self):
        row = self.soon(8, sign_row, some_form(picker(894), 40, LET))
        self.assertEqual([len(part) for part in row], list(range(41, 0, -1)))

    def test_refuses(self):
        for value in NO_FORMS:
            for call in (distinct_count, real_count, sign_row, spans, definite_paper):
                self.refuses(InvalidForm, {}, call, value)
            self.refuses(InvalidForm, {}, sign_changes, value, None)
            self.refuses(InvalidForm, {}, count_between, value, None, None)
            self.refuses(InvalidForm, {}, are_spans, value, None)
            self.refuses(InvalidForm, {}, is_definite_paper, value, None)
        for value in NO_RATIOS:
            for form in (QUAD, ZEROS[0]):
                self.refuses(InvalidRatio, {}, sign_changes, form, value)
                self.refuses(InvalidRatio, {}, count_between, form, value, None)
                self.refuses(InvalidRatio, {}, count_between, form, (1, 1), value)
        for zero in ZEROS:
            for call in (distinct_count, real_count, sign_row, spans, definite_paper):
                self.refuses(InvalidOperation, {}, call, zero)
            self.refuses(InvalidOperation, {}, sign_changes, zero, (1, 2))
            self.refuses(InvalidOperation, {}, count_between, zero, (1, 2), (2, 1))
            self.refuses(InvalidOperation, {}, are_spans, zero, ())
            self.refuses(InvalidOperation, {}, is_definite_paper, zero, ("end",))
        for low, high in (((1, 1), (1, 1)), ((1, 2), (1, 3)), ((0, 1), (-LET, 1))):
            self.refuses(InvalidOperation, {}, count_between, QUAD, low, high)
            self.refuses(InvalidOperation, {}, count_between, ZEROS[1], low, high)


class Spans(Case, unittest.TestCase):
    def test_made_forms(self):
        for form, roots, _, _ in made_forms(895, 80, 12):
            found = spans(form)
            self.assertEqual(len(found), len(roots))
            for (low, high), root in zip(found, sorted(roots)):
                self.assertTrue(ratio(low) < root <= ratio(high))
            for (_, high), (low, _) in zip(found, found[1:]):
                self.assertLessEqual(ratio(high), ratio(low))
            self.assertIs(are_spans(form, found), True)

    def test_judged(self):
        """Spans made by the roots themselves, and each with something wrong."""
        pick = picker(896)
        for form, roots, _, _ in made_forms(897, 60, 9):
            ends = sorted(roots)
            good = tuple((told(one - Fraction(1, 1000)), told(one)) for one in ends)
            self.assertIs(are_spans(form, good), True)
            if not ends:
                self.assertIs(are_spans(form, ()), True)
                self.assertIs(are_spans(form, (((-1, 1), (1, 1)),)), False)
                continue
            at = pick.randint(0, len(ends) - 1)
            root = ends[at]
            for pair in ((told(root), told(root + Fraction(1, 1000))), (told(root), told(root)), (told(root), told(root - 1)), (told(root),),
                         (told(ends[0] - 9), told(ends[-1] + 9)) if len(ends) > 1 else (), None, [told(root - 1), told(root)],
                         (told(root - 1), (2 * root.numerator, 2 * root.denominator)), (True, told(root))):
                self.assertIs(are_spans(form, good[:at] + (pair,) + good[at + 1:]), False)
            self.assertIs(are_spans(form, good[:at] + good[at + 1:]), False)
            self.assertIs(are_spans(form, good + good[-1:]), False)
            self.assertIs(are_spans(form, list(good)), False)
            if len(good) > 1:
                self.assertIs(are_spans(form, good[::-1]), False)
            wide = 10 ** 90
            longer = ((told(Fraction(ends[0].numerator * wide - 1, ends[0].denominator * wide)), told(ends[0])),) + good[1:]
            self.assertIs(are_spans(form, longer), True)
            self.assertIs(are_spans(form, (((-wide, 1), told(ends[0])),) + good[1:]), True)

    def test_random_forms(self):
        pick = picker(898)
        for _ in range(60):
            form = some_form(pick, pick.randint(0, 12), pick.choice((1, 9, 10 ** 20 - 1)))
            if form.is_zero:
                continue
            found = spans(form)
            self.assertEqual(len(found), real_count(form) - (form.entries[0] == 0))
            self.assertIs(are_spans(form, found), True)
            row = reckoned_signs(form)
            self.assertTrue(all(changes(row, ratio(low)) - changes(row, ratio(high)) == 1 for low, high in found))

    def test_near_roots(self):
        """Roots that are very near to one another need long ratios, but at most 400 digits."""
        for form in (Form((1, 0, -2 * 10 ** 10, 0, 10 ** 20 - 1)),
                     Form((1,) + (0,) * 9 + (-2 * 10 ** 18, 4 * 10 ** 9, -2)),
                     Form((9 * 10 ** 19,) + (0,) * 9 + (-10 ** 19, 2 * 10 ** 10, -10))):
            found = self.soon(5, spans, form)
            self.assertIs(are_spans(form, found), True)
            self.assertTrue(all(abs(part) < 10 ** 400 for pair in found for end in pair for part in end))
        # Mignotte's polynomial: two roots at a distance of some 10 ** -110 from one another.
        form = Form((1,) + (0,) * 9 + (-2 * 10 ** 18, 4 * 10 ** 9, -2))
        self.assertEqual(len(spans(form)), real_count(form))

    def test_greatest(self):
        pick = picker(899)
        form = some_form(pick, 12, 10 ** 20 - 1)
        found = self.soon(5, spans, form)
        self.assertIs(self.soon(5, are_spans, form, found), True)
        lines = product_of([Form((10, -k)) for k in range(-6, 6)])
        self.assertEqual(len(self.soon(5, spans, lines)), 12)
        small = product_of([Form((3, -k)) for k in range(-4, 4)])
        self.soon(5, lambda: [spans(small) for _ in range(100)])

    def test_any_value(self):
        for form in (QUAD, Form((1, 0, 1)), Form((5,)), SIX):
            for value in NO_PAPERS:
                self.assertIs(are_spans(form, value), value == () and spans(form) == ())
        for value in WRONG:
            self.assertIs(are_spans(Form((1, 0)), ((value, (1, 1)),)), False)
            self.assertIs(are_spans(Form((1, 0)), (((-1, 1), value),)), False)
        self.assertIs(are_spans(Form((1, 0)), (((-LONG, 1), (1, LONG)),)), True)

    def test_refuses(self):
        for value in (Form((1,) * 14), Form((10 ** 20,) * 14), Form((1,) * 41)):
            self.refuses(TooMany, {"limit": 12}, spans, value)
            self.refuses(TooMany, {"limit": 12}, are_spans, value, None)
        for row in ((10 ** 20,), (1, -10 ** 20), (1,) * 12 + (LET,)):
            self.refuses(TooMany, {"limit": 20}, spans, Form(row))
            self.refuses(TooMany, {"limit": 20}, are_spans, Form(row), ())
        self.assertEqual(spans(Form((10 ** 20 - 1,))), ())
        self.assertEqual(len(spans(Form((10 ** 20 - 1, 1 - 10 ** 20)))), 1)
        for many in (14, 30):
            self.refuses(InvalidOperation, {}, spans, Form((0,) * many))


class Definite(Case, unittest.TestCase):
    def check(self, form):
        paper = definite_paper(form)
        self.assertIs(is_definite_paper(form, paper), True)
        real, first = real_count(form), form.entries[0]
        self.assertEqual(paper[0], "end" if first == 0 else "root" if real else "sign")
        for number in (-1, 0, 1, 2, True, "1", None):
            right = real == 0 and number is not True and number == (1 if first > 0 else -1)
            self.assertIs(is_definite_paper(form, ("sign", number)), right)
        self.assertIs(is_definite_paper(form, ("end",)), first == 0)
        return paper

    def test_papers(self):
        pick = picker(900)
        words = {"sign": 0, "root": 0, "end": 0}
        for form, roots, _, _ in made_forms(901, 120):
            paper = self.check(form)
            words[paper[0]] += 1
            if paper[0] == "root":
                self.assertTrue(any(ratio(paper[1]) < root <= ratio(paper[2]) for root in roots))
            for _ in range(4):
                low, high = sorted((Fraction(pick.randint(-9, 9), pick.randint(1, 4)) for _ in range(2)))
                right = low < high and any(low < root <= high for root in roots)
                self.assertIs(is_definite_paper(form, ("root", told(low), told(high))), right)
            for root in roots:
                self.assertIs(is_definite_paper(form, ("root", told(root - 1), told(root))), True)
                self.assertIs(is_definite_paper(form, ("root", told(root), told(root))), False)
                self.assertIs(is_definite_paper(form, ("root", told(root), told(root - 1))), False)
                self.assertIs(is_definite_paper(form, ("root", told(root - 1))), False)
        self.assertGreater(min(words.values()), 10)

    def test_values_of_definite_forms(self):
        pick = picker(902)
        for _ in range(60):
            parts = [pick.choice(DEFINITE) for _ in range(pick.randint(0, 3))]
            form = product_of(parts) * pick.choice((3, -2))
            number = 1 if form.entries[0] > 0 else -1
            self.assertEqual(definite_paper(form), ("sign", number))
            self.assertEqual(form.degree % 2, 0)
            for x, y in product(range(-3, 4), repeat=2):
                if x or y:
                    self.assertGreater(number * value_of(form.entries, x, y), 0)

    def test_edges(self):
        self.assertEqual(definite_paper(Form((-5,))), ("sign", -1))
        self.assertEqual(definite_paper(Form((0, 0, 1))), ("end",))
        self.assertEqual(definite_paper(Form((0, 1, 0, 1))), ("end",))
        self.assertIs(is_definite_paper(Form((0, 1, 0)), ("root", (-1, 1), (0, 1))), True)
        self.assertIs(is_definite_paper(Form((0, 1)), ("root", (-LET, 1), (LET, 1))), False)
        for form in (Form((1, 2, 1)), Form((1, 2, 1)) * Form((1, 0, 1)), Form((1, 1)), CUBIC, SIX):
            self.check(form)

    def test_longer_integers(self):
        long = whole_form((1, -10 ** 450, 0))
        paper = definite_paper(long)
        self.assertIs(is_definite_paper(long, paper), True)
        self.assertTrue(all(abs(part) < 10 ** 400 for end in paper[1:] for part in end))
        far = whole_form((1, -10 ** 450))
        paper = definite_paper(far)
        self.assertIs(is_definite_paper(far, paper), True)
        self.assertIs(is_definite_paper(far, ("root", (10 ** 450 - 1, 1), (10 ** 450, 1))), True)
        self.assertIs(is_definite_paper(far, ("root", (10 ** 450, 1), (10 ** 450 + 1, 1))), False)
        self.assertEqual(definite_paper(whole_form((10 ** 450, 0, 1))), ("sign", 1))

    def test_any_value(self):
        for form in (QUAD, Form((1, 0, 1)), Form((5,)), Form((0, 1)), SIX):
            for value in NO_PAPERS + (("end", 0), ("end",) * 2, ["end"], "end", ("sign", 1, 1), ("root", 1, 2), ("root", (0, 1), (5, 1), 1)):
                self.assertIs(is_definite_paper(form, value), False)
        for value in WRONG:
            self.assertIs(is_definite_paper(QUAD, ("root", value, (9, 1))), False)
            self.assertIs(is_definite_paper(QUAD, ("root", (-9, 1), value)), False)
        self.assertIs(is_definite_paper(QUAD, ("root", (1, LONG), (LONG, 1))), True)

    def test_greatest(self):
        pick = picker(903)
        form = some_form(pick, 40, LET)
        paper = self.soon(8, definite_paper, form)
        self.assertIs(self.soon(8, is_definite_paper, form, paper), True)
        small = some_form(pick, 8)
        self.soon(3, lambda: [is_definite_paper(small, definite_paper(small)) for _ in range(100)])


class Statements(Case, unittest.TestCase):
    def test_what_is_not_true(self):
        self.assertEqual(real_count(Form((1, 3, 1))), 2)
        square = BENT * Form((1, 0))
        self.assertTrue(all(value_of(square.entries, x, y) >= 0 for x, y in product(range(-4, 5), repeat=2)))
        self.assertEqual(definite_paper(square)[0], "root")
        self.assertEqual(signature(bezout_table(QUAD.derived(0, 1), QUAD.derived(1, 0))), 1)
        self.assertEqual(sign_row(Form((1, 1)) * Form((1, 1))), sign_row(Form((1, 1))))


class Examples(Case, unittest.TestCase):
    def test_document(self):
        self.run_examples("""
>>> [[distinct_count(form), real_count(form)] for form in (QUAD, CUBIC, FOUR, SIX, BENT, Form((3,)))]
[[2, 2], [3, 3], [4, 2], [6, 4], [2, 2], [0, 0]]
>>> [sign_row(QUAD), sign_row(BENT), sign_changes(QUAD, (0, 1)), sign_changes(QUAD, (2, 1)), sign_row(Form((0, 5)))]
[((1, 0, -2), (1, 0), (1,)), ((1, 1, 0), (2, 1), (1,)), 1, 0, ((1,),)]
>>> [count_between(CUBIC, (0, 1), (1, 1)), count_between(QUAD, (-2, 1), (2, 1)), count_between(BENT, (-1, 1), (0, 1)), count_between(SIX, (-5, 1), (5, 1))]
[1, 2, 1, 3]
>>> [are_spans(QUAD, (((-2, 1), (0, 1)), ((0, 1), (2, 1)))), are_spans(QUAD, (((-2, 1), (2, 1)),)), are_spans(SIX, spans(SIX)), len(spans(SIX)), spans(Form((1, 0, 1)))]
[True, False, True, 3, ()]
>>> [definite_paper(Form((1, 0, 1))), definite_paper(Form((-2, 2, -1))), is_definite_paper(SIX, ("end",)), is_definite_paper(QUAD, ("root", (1, 1), (2, 1))), is_definite_paper(QUAD, ("sign", 1))]
[('sign', 1), ('sign', -1), True, True, False]
>>> real_count(Form((0, 0)))
raises InvalidOperation
""", NAMES)

    def test_places(self):
        self.assertEqual((module.MAX_SPANNED, module.MAX_DIGITS), (12, 20))
        for call in (distinct_count, real_count, sign_row, sign_changes, count_between, spans, are_spans, definite_paper, is_definite_paper):
            self.assertEqual(call.__module__, "sourceforms.root.reals")


if __name__ == "__main__":
    unittest.main()
