import unittest
from itertools import product

from sourceforms import errors
from sourceforms.errors import InvalidForm, InvalidOperation, UnknownName
from sourceforms.fall.worst import greatest_times
from sourceforms.form.forms import Form, factor_between, line_of
from sourceforms.form.layings import laid
from sourceforms.mirror import klein as module
from sourceforms.mirror.klein import is_klein_paper, is_power_paper, klein_form, klein_kind, klein_paper, power_paper
from sourceforms.prime.changes import kept_tables
from sourceforms.prime.fields import PrimeForm
from tests.support import BENT, CUBIC, FOUR, LET, LONG, NO_FORMS, NO_PAPERS, QUAD, SIX, Case, determinant_of, picker, product_of
from tests.support import some_change, some_form, some_point, some_points, some_table, whole_form
from tests.test_layings import reckoned_laying

NAMES = {**vars(errors), **vars(module), "Form": Form, "QUAD": QUAD, "CUBIC": CUBIC, "FOUR": FOUR, "SIX": SIX, "BENT": BENT}
TWELVE = Form((0, 1, 0, 0, 0, 0, 11, 0, 0, 0, 0, -1, 0))
SOLIDS = {"four": FOUR, "six": SIX, "twelve": TWELVE}
OTHER = Form((1, 0, -5, 0, -5, 0, 1))
WORDS = NO_PAPERS + (("four",), ("six",), ("twelve",), ("zero",), ("other",), ("power",), "four")


def power(k, point, degree):
    return product_of([line_of(point)] * degree) * k


def laying(form, times):
    return reckoned_laying(form.entries, form.entries, times)


class Names(Case, unittest.TestCase):
    def test_forms(self):
        self.assertEqual(module.LEAST_DEGREE, 4)
        for name, form in SOLIDS.items():
            self.assertEqual(klein_form(name), form)
        x, y = Form((1, 0)), Form((0, 1))
        self.assertEqual(klein_form("four"), x * (x * x * x + y * y * y))
        self.assertEqual(klein_form("six"), x * y * (product_of([x] * 4) - product_of([y] * 4)))
        five, ten = product_of([x] * 5), product_of([x] * 10)
        self.assertEqual(klein_form("twelve"), x * y * (ten + five * product_of([y] * 5) * 11 - product_of([y] * 10)))

    def test_refuses(self):
        for value in ("", "Four", "eight", "zero", "near", 4, None, True, (), ("four",), ["four"], {}, {"four": 1}, QUAD, LONG):
            self.refuses(UnknownName, {"name": value}, klein_form, value)


class Powers(Case, unittest.TestCase):
    def check(self, form, told):
        """The paper that is told is the only one of its word, and no entry is told beside it."""
        paper = power_paper(form)
        self.assertIs(is_power_paper(form, paper), True)
        if told is None:
            row = laying(form, 2)
            self.assertEqual(paper[0], "entry")
            self.assertEqual((len(paper), row[paper[1]], paper[2] != 0), (3, paper[2], True))
            for index, entry in enumerate(row):
                self.assertIs(is_power_paper(form, ("entry", index, entry)), entry != 0)
                self.assertIs(is_power_paper(form, ("entry", index, entry + 1)), False)
            for index in (-1, len(row), len(row) + 5, -len(row)):
                self.assertIs(is_power_paper(form, ("entry", index, row[-1])), False)
            for k, point in ((1, (1, 0)), (form.content, (0, 1)), (0, (1, 1))):
                self.assertIs(is_power_paper(form, ("power", k, point)), False)
        else:
            self.assertEqual(paper[:1] + paper[1:2], ("power", told[0]))
            self.assertIs(is_power_paper(form, ("power",) + told), True)
            if form.degree and told[0]:
                self.assertEqual(paper, ("power",) + told)
                k, (a, b) = told
                for value in ((-k, (a, b)), (k + 1, (a, b)), (k, (-a, -b)), (k, (2 * a, 2 * b)), (k, (b, a + 1)), ((a, b), k)):
                    self.assertIs(is_power_paper(form, ("power",) + value), False)
            self.assertIs(is_power_paper(form, ("entry", 0, 0)), False)
            self.assertIs(is_power_paper(form, ("entry", 0, 1)), False)

    def test_powers_of_points(self):
        pick = picker(801)
        points = [(1, 0), (0, 1), (1, -1), (3, -7), (5, 2), (LET, 1), (1, -LET), (10 ** 30, -10 ** 30 - 1)]
        for degree in (1, 2, 3, 4, 7, 11, 40):
            for point in points + some_points(pick, 5):
                for k in (1, -1, 6, -LET):
                    form = power(k, point, degree)
                    self.check(form, (k, point))
                    self.assertEqual(form.content, abs(k))
                    self.assertEqual(any(laying(form, 2)) if 2 <= degree < 12 else False, False)

    def test_degrees_0_and_1(self):
        for entry in (5, -1, 0, LET):
            for point in ((3, 7), (1, 0), (0, 1)):
                self.check(Form((entry,)), (entry, point))
            self.assertIs(is_power_paper(Form((entry,)), ("power", entry, (2, 4))), False)
            self.assertIs(is_power_paper(Form((entry,)), ("power", entry + 1, (1, 0))), False)
        for a, b in product(range(-4, 5), repeat=2):
            form = Form((a, b))
            self.assertIs(is_power_paper(form, power_paper(form)), True)
            self.assertEqual(power_paper(form)[0], "power")
            if a or b:
                _, k, point = power_paper(form)
                self.assertEqual(line_of(point) * k, form)

    def test_zero_forms(self):
        for degree in range(0, 41):
            form = Form((0,) * (degree + 1))
            for point in ((1, 0), (0, 1), (3, -7), (10 ** 70, 1)):
                self.check(form, (0, point))
            for value in ((1, (1, 0)), (0, (0, 0)), (0, (2, 2)), (0, (-1, 0)), (False, (1, 0)), (0, (True, 0)), (0, None)):
                self.assertIs(is_power_paper(form, ("power",) + value), False)

    def test_near_powers(self):
        """One entry is changed: the form is no power any more, unless all tells so."""
        pick = picker(802)
        for _ in range(60):
            degree = pick.randint(2, 8)
            row = list(power(pick.choice((1, -2, 7)), some_point(pick), degree).entries)
            row[pick.randint(0, degree)] += pick.choice((1, -1, 3))
            form = Form(tuple(row))
            if any(laying(form, 2)):
                self.check(form, None)
            else:
                _, k, point = power_paper(form)
                self.assertEqual(power(k, point, degree), form)

    def test_all_small_forms(self):
        for degree in (2, 3, 4):
            for row in product((-2, -1, 0, 1, 2), repeat=degree + 1):
                form = Form(row)
                paper = power_paper(form)
                self.assertEqual(paper[0], "entry" if any(laying(form, 2)) else "power")
                self.assertIs(is_power_paper(form, paper), True)
                if paper[0] == "power":
                    self.assertEqual(power(paper[1], paper[2], degree), form)

    def test_longer_integers(self):
        point = (10 ** 80, 10 ** 80 + 1)
        line = whole_form((point[1], -point[0]))
        form = line * line * line
        self.assertEqual(power_paper(form), ("power", 1, point))
        self.assertIs(is_power_paper(form, ("power", 1, point)), True)
        self.assertIs(is_power_paper(form, ("power", -1, point)), False)
        long = whole_form((10 ** 90,))
        self.assertIs(is_power_paper(long, ("power", 10 ** 90, (10 ** 99, 1))), True)
        self.assertIs(is_power_paper(long, ("power", 10 ** 90, (10 ** 99, 10))), False)

    def test_greatest(self):
        pick = picker(803)
        form = some_form(pick, 40, LET)
        paper = self.soon(3, power_paper, form)
        self.assertEqual((paper[0], laying(form, 2)[paper[1]]), ("entry", paper[2]))
        self.assertIs(self.soon(3, is_power_paper, form, paper), True)
        small = some_form(pick, 8)
        self.soon(2, lambda: [is_power_paper(small, power_paper(small)) for _ in range(100)])

    def test_refuses(self):
        for value in NO_FORMS:
            self.refuses(InvalidForm, {}, power_paper, value)
            self.refuses(InvalidForm, {}, is_power_paper, value, None)
        for form in (QUAD, Form((5,)), Form((1, 2)), Form((0, 0, 0)), power(2, (1, 3), 5)):
            for value in WORDS:
                self.assertIs(is_power_paper(form, value), False)
        self.assertIs(is_power_paper(Form((1, 0)), ("power", True, (0, 1))), False)
        self.assertIs(is_power_paper(Form((1, 0)), ("power", 1, (0, True))), False)
        self.assertIs(is_power_paper(Form((1, 0)), ["power", 1, (0, 1)]), False)
        self.assertIs(is_power_paper(Form((1, 0)), ("power", 1, [0, 1])), False)
        self.assertIs(is_power_paper(Form((0, 1, 0)), ("entry", False, -2)), False)
        self.assertIs(is_power_paper(Form((0, 1, 0)), ("entry", 0, -2)), True)


class Kinds(Case, unittest.TestCase):
    def kinds(self):
        """Pairs of a form and the paper about its fourth laying."""
        pick = picker(804)
        found = []
        for degree in (4, 5, 6, 7, 12, 21):
            found.append((Form((0,) * (degree + 1)), ("zero",)))
            for _ in range(8):
                k, (point, other) = pick.choice((1, -1, 6, -35, LET)), some_points(pick, 2, pick.choice((1, 7)))
                found.append((power(k, point, degree), ("power", k, point)))
                found.append((power(k, point, degree - 1) * line_of(other), ("near", k, point, other)))
        for name, form in SOLIDS.items():
            for _ in range(25):
                found.append((form.changed(some_change(pick)) * pick.choice((1, -1, 10)), (name,)))
        found.append((OTHER, ("six",)))
        return found

    def test_papers(self):
        names = set()
        for form, paper in self.kinds():
            names.add(paper[0])
            self.assertEqual(klein_paper(form), paper)
            self.assertEqual(klein_kind(form), paper[0])
            self.assertFalse(any(laying(form, 4)))
            self.assertIs(is_klein_paper(form, paper), True)
            for value in WORDS + (("power", 0, (1, 0)), ("entry", 0, 1), ("near", 1, (1, 0), (1, 0)), paper + (1,), list(paper)):
                self.assertIs(is_klein_paper(form, value), value == paper)
            if paper[0] == "near":
                _, k, point, other = paper
                for value in ((-k, point, other), (k, other, point), (k, point, point), (k, point), (k, point, other, 1)):
                    self.assertIs(is_klein_paper(form, ("near",) + value), False)
        self.assertEqual(names, {"zero", "power", "near", "four", "six", "twelve"})

    def test_changed_forms_keep_their_kind(self):
        pick = picker(805)
        for form, paper in self.kinds()[::3]:
            if form.degree < 10:
                self.assertEqual(klein_kind(form.changed(some_change(pick))), paper[0])
        for _ in range(20):
            form = some_form(pick, pick.randint(4, 7), 2)
            self.assertEqual(klein_kind(form), klein_kind(form.changed(some_change(pick))))

    def test_near_by(self):
        """One entry of a form with one of these kinds is changed: all is told by the fourth laying."""
        pick = picker(806)
        for form, _ in self.kinds():
            row = list(form.entries)
            row[pick.randint(0, form.degree)] += pick.choice((1, -1, 2))
            self.check_other(Form(tuple(row)) if abs(max(row, key=abs)) < LONG else form)

    def check_other(self, form):
        row = laying(form, 4)
        paper = klein_paper(form)
        self.assertIs(is_klein_paper(form, paper), True)
        if any(row):
            self.assertEqual((klein_kind(form), paper[0], row[paper[1]]), ("other", "entry", paper[2]))
            for index in range(-2, len(row) + 2):
                right = 0 <= index < len(row) and row[index] != 0
                entry = row[index] if 0 <= index < len(row) else row[0]
                self.assertIs(is_klein_paper(form, ("entry", index, entry)), right)
                self.assertIs(is_klein_paper(form, ("entry", index, entry + 1)), False)
            for value in WORDS:
                self.assertIs(is_klein_paper(form, value), False)
        else:
            self.assertEqual(klein_kind(form), paper[0])
            self.assertNotEqual(paper[0], "entry")

    def test_all_small_forms(self):
        for row in product((-1, 0, 1), repeat=5):
            self.check_other(Form(row))
        for row in product((-1, 0, 1), repeat=6):
            form = Form(row)
            self.assertEqual(klein_kind(form) == "other", any(laying(form, 4)))
        for row in product((0, 1), repeat=7):
            self.assertEqual(klein_kind(Form(row)) == "other", any(laying(Form(row), 4)))

    def test_solids_have_different_roots(self):
        for form, paper in self.kinds():
            if paper[0] in SOLIDS:
                self.assertEqual((greatest_times(form), form.degree), (1, SOLIDS[paper[0]].degree))

    def test_layings_of_solids(self):
        pick = picker(807)
        for _ in range(12):
            table = some_change(pick, 3)
            f = FOUR.changed(table)
            h = laid(f, f, 2)
            self.assertEqual((klein_kind(h), klein_kind(laid(f, h, 1))), ("four", "six"))
            f = pick.choice((SIX, OTHER)).changed(table)
            h, number = laid(f, f, 2), laid(f, f, 6).entries[0]
            self.assertNotEqual(number, 0)
            self.assertTrue(all(3 * a + 980 * number * b == 0 for a, b in zip(laid(h, h, 4), h)))
            f = TWELVE.changed(table)
            self.assertIsNotNone(factor_between(f, laid(f, f, 6)))
            self.assertEqual((laid(f, f, 8).is_zero, laid(f, f, 10).is_zero, laid(f, f, 12).is_zero), (True, True, False))

    def test_kept_by_prime_tables(self):
        pick = picker(808)
        most = {"four": 12, "six": 24, "twelve": 60}
        for name, form in SOLIDS.items():
            for changed in (form, form.changed(some_change(pick))):
                for p in (13, 31, 41, 61, 101):
                    small = PrimeForm.of_form(changed, p)
                    if not small.is_zero and all(often == 1 for _, often in small.pattern()):
                        self.assertEqual(most[name] % len(kept_tables(small)), 0)

    def test_tables_without_determinant(self):
        pick = picker(809)
        for _ in range(40):
            table = some_table(pick, 2)
            form = SIX.changed(table)
            self.assertIn(klein_kind(form), ("six",) if determinant_of(table) else ("zero", "power"))

    def test_greatest(self):
        pick = picker(810)
        form = some_form(pick, 40, LET)
        paper = self.soon(3, klein_paper, form)
        self.assertEqual(paper[0], "entry")
        self.assertIs(self.soon(3, is_klein_paper, form, paper), True)
        point, other = (10 ** 59 + 3, -7), (2, 10 ** 58 + 1)
        form = power(-LET, point, 39) * line_of(other)
        self.assertEqual(self.soon(4, klein_paper, form), ("near", -LET, point, other))
        form = power(3, point, 40)
        self.assertEqual(self.soon(4, klein_paper, form), ("power", 3, point))
        self.soon(2, lambda: [klein_paper(SIX.changed(((1, 2), (3, k)))) for k in range(7, 107)])
        self.assertEqual(klein_kind(TWELVE.changed(((10 ** 9, 7), (3, -10 ** 8)))), "twelve")

    def test_refuses(self):
        for call in (klein_paper, klein_kind, lambda form: is_klein_paper(form, ("zero",))):
            for value in NO_FORMS:
                self.refuses(InvalidForm, {}, call, value)
            for form in (CUBIC, QUAD, Form((1, 2)), Form((5,)), Form((0,)), Form((0, 0, 0, 0))):
                self.refuses(InvalidOperation, {}, call, form)


class Statements(Case, unittest.TestCase):
    def test_what_is_not_true(self):
        form = Form((1, 0, 1, 0, 0, 0, 0))
        self.assertEqual((laid(form, form, 6).is_zero, klein_kind(form)), (True, "other"))
        self.assertEqual(sum(OTHER.times_at((a, b)) for a in range(4) for b in (-3, -2, -1, 1, 2, 3) if (a, b) == (1, b)), 0)
        square = Form((0, 0, 1, 0, 0))
        self.assertEqual((klein_kind(square), greatest_times(square)), ("other", 2))


class Examples(Case, unittest.TestCase):
    def test_document(self):
        self.run_examples("""
>>> OTHER = Form((1, 0, -5, 0, -5, 0, 1))
>>> [power_paper(Form.power((1, 2), 4)), power_paper(QUAD), power_paper(Form((4, -6))), is_power_paper(Form((5,)), ("power", 5, (3, 7)))]
[('power', 1, (2, -1)), ('entry', 0, -16), ('power', 2, (3, 2)), True]
>>> [is_power_paper(CUBIC, ("entry", 1, 72)), is_power_paper(CUBIC, ("entry", 1, 71)), is_power_paper(Form((0, 0, 0)), ("power", 0, (1, 4)))]
[True, False, True]
>>> [klein_paper(form) for form in (FOUR, SIX, klein_form("twelve"), Form((0, 1, 0, 0, 0)), Form((0, 0, 1, 0, 0)))]
[('four',), ('six',), ('twelve',), ('near', -1, (0, 1), (1, 0)), ('entry', 0, 96)]
>>> [klein_kind(form) for form in (OTHER, Form((1, 0, 0, 0, 0, 0, 1)), Form((0, 0, 0, 0, 0)), Form.power((1, 2), 5), Form((0, 3, 0, 0, 0, 0)))]
['six', 'other', 'zero', 'power', 'near']
>>> [is_klein_paper(SIX, ("six",)), is_klein_paper(SIX, ("four",)), is_klein_paper(Form.power((1, 0), 4), ("near", 1, (0, 1), (0, 1))), klein_form("six") == SIX]
[True, False, False, True]
>>> klein_paper(CUBIC)
raises InvalidOperation
""", NAMES)

    def test_places(self):
        for call in (klein_form, power_paper, is_power_paper, klein_paper, is_klein_paper, klein_kind):
            self.assertEqual(call.__module__, "sourceforms.mirror.klein")


if __name__ == "__main__":
    unittest.main()
