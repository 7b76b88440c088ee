import unittest
from fractions import Fraction
from itertools import combinations_with_replacement
from math import comb, gcd

from sourceforms import errors
from sourceforms.errors import InvalidForm, InvalidOperation, InvalidPoint, InvalidTable, TooMany
from sourceforms.form import forms
from sourceforms.form.forms import Form, factor_between, line_of
from tests.support import BENT, CUBIC, FOUR, LET, LONG, NO_INTEGERS, NO_TUPLES, QUAD, SIX, Case
from tests.support import matrix_product, picker, some_form, some_table

NO_FORMS = NO_TUPLES[:-1] + ((1, 0, -2), (), "form 1 0", (QUAD,))
NO_POINTS = NO_TUPLES + (
    (), (1,), (1, 0, 0), (0, 0), (0, -1), (-1, 0), (-1, 2), (0, 2), (2, 0), (2, 4), (True, 0), (1, False), (None, 1),
    (1, None), (LONG, 1), (1, LONG), ("1", 1), ((1, 0), (0, 1)), [1, 0],
)
NO_TABLES = NO_TUPLES + (
    (), (1, 2), ((1, 2),), ((1, 2), (3,)), ((1, 2), (3, 4), (5, 6)), ((1, 2, 3), (4, 5, 6)), ((1, 2), [3, 4]),
    [(1, 2), (3, 4)], ((True, 0), (0, 1)), ((1, 0), (0, True)), ((1, 0), (0, LONG)), ((LONG, 0), (0, 1)),
    ((1, None), (0, 1)), ((1, 0), ("0", 1)), (1, 2, 3, 4), ((), ()),
)
NO_ENTRIES = NO_TUPLES + (
    (), (True,), (1, False), (1, None), (1, "2"), (LONG,), (0, -LONG), ((1, 2),), ([1],), (0,) * 42, (1,) * 50, (QUAD,),
)
POINTS = tuple(
    (a, b) for a in range(4) for b in range(-3, 4) if gcd(a, b) == 1 and (a > 0 or b > 0)
)


def value_of(entries, x, y):
    degree = len(entries) - 1
    return sum(entry * x ** (degree - i) * y ** i for i, entry in enumerate(entries))


def polynomial(entries):
    """A form as a dict from pairs of exponents."""
    degree = len(entries) - 1
    return {(degree - i, i): entry for i, entry in enumerate(entries)}


def product(one, other):
    found = {}
    for (a, b), first in polynomial(one).items():
        for (c, d), second in polynomial(other).items():
            found[a + c, b + d] = found.get((a + c, b + d), 0) + first * second
    degree = len(one) + len(other) - 2
    return tuple(found[degree - i, i] for i in range(degree + 1))


def changed_by_powers(entries, first, second):
    degree = len(entries) - 1
    total = [0] * len(entries)
    for i, entry in enumerate(entries):
        part = (entry,)
        for line in [first] * (degree - i) + [second] * i:
            part = product(part, line)
        total = [a + b for a, b in zip(total, part)]
    return tuple(total)


def derived_once(entries, by_x):
    degree = len(entries) - 1
    if by_x:
        return tuple((degree - i) * entries[i] for i in range(degree))
    return tuple(i * entries[i] for i in range(1, degree + 1))


def forms_of(seed, many, degrees, most=9):
    pick = picker(seed)
    return [some_form(pick, pick.choice(degrees), most) for _ in range(many)]


SOME = [QUAD, CUBIC, FOUR, SIX, BENT, Form((0,)), Form((0, 0, 0)), Form((7,)), Form((-3, 0))]
SOME += forms_of(11, 12, range(6)) + forms_of(12, 4, range(5), LET)


class Making(Case, unittest.TestCase):
    def test_constants(self):
        self.assertEqual((forms.MAX_DEGREE, forms.MAX_POINTS), (40, 40))

    def test_entries_are_kept(self):
        for entries in ((0,), (5,), (-LET, LET), (0,) * 41, tuple(range(-20, 21))):
            form = Form(entries)
            self.assertEqual(form.entries, entries)
            self.assertEqual(form.degree, len(entries) - 1)
            self.assertEqual(len(form), len(entries))
            self.assertEqual(tuple(form), entries)
            self.assertEqual(list(form), list(form))

    def test_no_entries(self):
        for value in NO_ENTRIES:
            self.refuses(InvalidForm, {}, Form, value)

    def test_never_changes(self):
        form = Form((1, 2))
        for name in ("entries", "degree", "is_zero", "content", "primitive"):
            with self.assertRaises(AttributeError):
                setattr(form, name, 3)
        self.assertEqual(form.entries, (1, 2))

    def test_methods_stand_in_the_class(self):
        names = "of_points power entries degree is_zero content primitive value changed derived times_at quotient"
        signs = "__init__ __add__ __sub__ __neg__ __mul__ __eq__ __len__ __iter__ __str__"
        for name in names.split() + signs.split():
            self.assertIn(name, vars(Form))
        for call in (Form, line_of, factor_between):
            self.assertEqual(call.__module__, "sourceforms.form.forms")

    def test_line_of(self):
        for a, b in POINTS:
            line = line_of((a, b))
            self.assertEqual(line.entries, (b, -a))
            self.assertEqual(line.value(a, b), 0)
        self.assertEqual(line_of((LET, LET - 1)).entries, (LET - 1, -LET))
        for value in NO_POINTS:
            self.refuses(InvalidPoint, {}, line_of, value)

    def test_of_points(self):
        self.assertEqual(Form.of_points(()).entries, (1,))
        for many in range(4):
            for points in combinations_with_replacement(POINTS[:7], many):
                wanted = (1,)
                for a, b in points:
                    wanted = product(wanted, (b, -a))
                self.assertEqual(Form.of_points(points).entries, wanted)
        self.assertEqual(Form.of_points(((0, 1),) * 40).entries, (1,) + (0,) * 40)
        self.assertEqual(Form.of_points(((1, LET),) * 40).entries[0], LET ** 40)

    def test_of_points_refuses(self):
        for value in NO_POINTS[:-3] + ((1, 0), ((1, 0),) * 41, ((1, 0), [0, 1]), [(1, 0)]):
            if value != ():
                self.refuses(InvalidPoint, {}, Form.of_points, value)
        for value in NO_POINTS:
            self.refuses(InvalidPoint, {}, Form.of_points, (value,))
            self.refuses(InvalidPoint, {}, Form.of_points, ((1, 2), value))
            self.refuses(InvalidPoint, {}, Form.of_points, (value, (1, 2)))

    def test_power(self):
        for pair in ((0, 0), (1, -2), (-2, -4), (0, 3), (5, 0), (LET, -LET)):
            wanted = (1,)
            for degree in range(9):
                self.assertEqual(Form.power(pair, degree).entries, wanted)
                wanted = product(wanted, pair)
        self.assertEqual(Form.power((1, 1), 40).entries, tuple(comb(40, i) for i in range(41)))
        self.assertEqual(Form.power((0, 0), 0).entries, (1,))
        self.assertEqual(Form.power((0, 0), 40).entries, (0,) * 41)

    def test_power_refuses(self):
        for value in NO_TUPLES + ((), (1,), (1, 2, 3), (True, 1), (1, None), (LONG, 1), (1, LONG), ((1, 2), (3, 4))):
            self.refuses(InvalidPoint, {}, Form.power, value, 3)
            self.refuses(InvalidPoint, {}, Form.power, value, 41)
        for value in NO_INTEGERS + (-1, 41):
            self.refuses_number(value, Form.power, (1, 2), value)


class Looking(Case, unittest.TestCase):
    def test_zero_content_primitive(self):
        for form in SOME + forms_of(13, 40, range(6), 3):
            divisor = gcd(*form.entries)
            self.assertEqual(form.content, divisor)
            self.assertIs(form.is_zero, divisor == 0)
            if divisor == 0:
                self.assertEqual(form.primitive, form)
            else:
                first = next(entry for entry in form if entry)
                divisor = divisor if first > 0 else -divisor
                self.assertEqual(form.primitive.entries, tuple(entry // divisor for entry in form))
                self.assertEqual(form.primitive * divisor, form)
        self.assertEqual(Form((0, -LET, 0)).primitive.entries, (0, 1, 0))
        self.assertEqual(Form((0,) * 41).content, 0)

    def test_values(self):
        for form in SOME:
            for x, y in ((0, 0), (1, 0), (0, 1), (2, 1), (-3, 5), (LET, -LET), (7, -7)):
                self.assertEqual(form.value(x, y), value_of(form.entries, x, y))
        self.assertEqual(Form((1,) * 41).value(1, -1), 1)
        self.assertEqual(Form((1,) * 41).value(2, 1), 2 ** 41 - 1)

    def test_values_refuse(self):
        for value in NO_INTEGERS:
            self.refuses_number(value, CUBIC.value, value, 1)
            self.refuses_number(value, CUBIC.value, 1, value)
            self.refuses_number(value, CUBIC.value, value, "x")
            self.refuses_number(value, Form((0,)).value, value, None)

    def test_changed(self):
        pick = picker(14)
        tables = [some_table(pick) for _ in range(6)] + [((0, 0), (0, 0)), ((1, 0), (0, 1)), ((LET, 0), (1, -LET))]
        for form in SOME:
            for (p, q), (r, s) in tables:
                changed = form.changed(((p, q), (r, s)))
                self.assertEqual(changed.degree, form.degree)
                self.assertEqual(changed.entries, changed_by_powers(form.entries, (p, q), (r, s)))
                for x, y in ((1, 0), (0, 1), (2, 3), (-1, 4), (5, -2), (3, 1), (1, 1)):
                    self.assertEqual(changed.value(x, y), value_of(form.entries, p * x + q * y, r * x + s * y))

    def test_changed_at_the_greatest_degree(self):
        form = Form((0,) * 20 + (1,) + (0,) * 20)
        changed = form.changed(((1, 1), (1, -1)))
        self.assertEqual(changed, Form.power((1, 1), 20) * Form.power((1, -1), 20))
        self.assertEqual(Form((3,)).changed(((0, 0), (0, 0))).entries, (3,))
        self.assertEqual(Form((3, 4)).changed(((0, 0), (0, 0))).entries, (0, 0))

    def test_changed_refuses(self):
        for value in NO_TABLES:
            self.refuses(InvalidTable, {}, CUBIC.changed, value)
            self.refuses(InvalidTable, {}, Form((0,)).changed, value)

    def test_derived(self):
        for form in SOME + [Form((1,) * 41)]:
            for one in range(min(form.degree, 5) + 1):
                for other in range(min(form.degree - one, 5) + 1):
                    wanted = form.entries
                    for _ in range(one):
                        wanted = derived_once(wanted, True)
                    for _ in range(other):
                        wanted = derived_once(wanted, False)
                    self.assertEqual(form.derived(one, other).entries, wanted)
        self.assertEqual(Form((0,) * 40 + (1,)).derived(0, 40).degree, 0)
        self.assertEqual(CUBIC.derived(3, 0).entries, (6,))

    def test_derived_refuses(self):
        for value in NO_INTEGERS + (-1, 4, 40):
            self.refuses_number(value, CUBIC.derived, value, 0)
            self.refuses_number(value, CUBIC.derived, value, 9)
            self.refuses_number(value, CUBIC.derived, 0, value)
        for one in range(4):
            self.assertEqual(CUBIC.derived(one, 3 - one).degree, 0)
            self.refuses_number(4 - one, CUBIC.derived, one, 4 - one)
        self.refuses_number(1, Form((5,)).derived, 1, 0)
        self.refuses_number(1, Form((5,)).derived, 0, 1)


class Dividing(Case, unittest.TestCase):
    def test_times_at(self):
        for points in combinations_with_replacement(POINTS[:6], 4):
            form = Form.of_points(points) * -6
            for point in POINTS:
                self.assertEqual(form.times_at(point), points.count(point))
        self.assertEqual(Form.of_points(((2, -3),) * 40).times_at((2, -3)), 40)
        self.assertEqual(Form((5,)).times_at((1, 0)), 0)
        self.assertEqual(Form.power((LET, -1), 3).times_at((1, LET)), 3)

    def test_times_at_refuses(self):
        for value in NO_POINTS:
            self.refuses(InvalidPoint, {}, CUBIC.times_at, value)
            self.refuses(InvalidPoint, {}, Form((0, 0)).times_at, value)
        for many in (1, 2, 41):
            self.refuses(InvalidOperation, {}, Form((0,) * many).times_at, (1, 0))

    def test_quotients_of_products(self):
        rows = [form for form in SOME if not form.is_zero]
        for one in rows:
            for other in rows:
                self.assertEqual((one * other).quotient(other), one)
                self.assertEqual((one * other).quotient(one), other)
        for one in rows[:8]:
            self.assertEqual(Form((0,) * (len(one) + 2)).quotient(one).entries, (0, 0, 0))
            self.assertEqual(one.quotient(one).entries, (1,))

    def test_no_quotients(self):
        self.assertIsNone(QUAD.quotient(CUBIC))
        self.assertIsNone(Form((0,)).quotient(Form((0, 1))))
        self.assertIsNone(Form((0, 0)).quotient(QUAD))
        self.assertIsNone(Form((3, 5)).quotient(Form((2,))))
        self.assertIsNone(Form((2, 4)).quotient(Form((4, 8))))
        self.assertIsNone(Form((1, 0)).quotient(Form((0, 1))))
        self.assertIsNone(Form((0, 1)).quotient(Form((1, 0))))
        self.assertIsNone(Form((1, 0, 1)).quotient(Form((0, 1))))
        self.assertEqual(Form((2, 4)).quotient(Form((-2,))).entries, (-1, -2))
        self.assertEqual(Form((0, 2, 1)).quotient(Form((0, 2, 1))).entries, (1,))
        self.assertEqual(Form((0, 0, 6, -1, 5)).quotient(Form((0, 0, 6, -1, 5))).entries, (1,))
        self.assertEqual((Form((0, 0, 3, 1)) * Form((0, 5, 1))).quotient(Form((0, 5, 1))).entries, (0, 0, 3, 1))
        for form in SOME:
            for other in SOME:
                if form.is_zero or other.is_zero:
                    continue
                found = form.quotient(other)
                self.assertEqual(found is not None, divides(other.entries, form.entries), (str(form), str(other)))
                if found is not None:
                    self.assertEqual(found * other, form)

    def test_all_small_quotients(self):
        for a in range(-4, 5):
            for b in range(-4, 5):
                for c in (-2, 0, 3, 4):
                    for other in ((2, 1), (0, 2), (1, 0), (-1, 3), (2,), (1, 1, 1)):
                        found = Form((a, b, c)).quotient(Form(other))
                        self.assertEqual(found is not None, divides(other, (a, b, c)))

    def test_quotient_refuses(self):
        for value in NO_FORMS:
            self.refuses(InvalidForm, {}, CUBIC.quotient, value)
        for many in (1, 3, 41):
            self.refuses(InvalidOperation, {}, CUBIC.quotient, Form((0,) * many))
            self.refuses(InvalidOperation, {}, Form((0,)).quotient, Form((0,) * many))


def divides(divisor, entries):
    """Whether a quotient with integers exists, by dividing polynomials of fractions at a shifted point."""
    # Behind this change neither form has the root (1, 0), so plain long division by the first entries works.
    if len(divisor) > len(entries):
        return False
    if not any(entries):
        return True
    shift = next(t for t in range(99) if value_of(divisor, 1, t) and value_of(entries, 1, t))
    first = [Fraction(part) for part in Form(tuple(entries)).changed(((1, 0), (shift, 1))).entries]
    second = Form(tuple(divisor)).changed(((1, 0), (shift, 1))).entries
    found = []
    while len(first) >= len(second):
        found.append(first[0] / second[0])
        for i, part in enumerate(second):
            first[i] -= found[-1] * part
        first.pop(0)
    return not any(first) and all(part.denominator == 1 for part in found)


class Operators(Case, unittest.TestCase):
    def test_sums(self):
        for one in SOME:
            for other in SOME:
                if one.degree == other.degree:
                    self.assertEqual((one + other).entries, tuple(a + b for a, b in zip(one, other)))
                    self.assertEqual((one - other).entries, tuple(a - b for a, b in zip(one, other)))
                else:
                    self.refuses(InvalidOperation, {}, lambda: one + other)
                    self.refuses(InvalidOperation, {}, lambda: one - other)
            self.assertEqual((-one).entries, tuple(-a for a in one))

    def test_products(self):
        for one in SOME:
            for other in SOME:
                self.assertEqual((one * other).entries, product(one.entries, other.entries))
            for number in (0, 1, -1, 7, LET, -LET):
                self.assertEqual((one * number).entries, tuple(entry * number for entry in one))

    def test_bounds_of_products(self):
        self.assertEqual((Form((1,) * 41) * Form((2,))).entries, (2,) * 41)
        self.assertEqual((Form((1,) * 21) * Form((1,) * 21)).degree, 40)
        self.refuses(TooMany, {"limit": 40}, lambda: Form((1,) * 22) * Form((1,) * 21))
        self.refuses(TooMany, {"limit": 40}, lambda: Form((0,) * 41) * Form((0, 0)))
        self.refuses_number(LONG, lambda: CUBIC * LONG)
        self.refuses_number(-LONG, lambda: CUBIC * -LONG)

    def test_longer_entries_go_on(self):
        long = Form((LET,)) * LET
        self.assertEqual((long + long).entries, (2 * LET * LET,))
        self.assertEqual((long * long * QUAD).entries, (LET ** 4, 0, -2 * LET ** 4))
        self.assertEqual((long * QUAD).quotient(QUAD), long)
        self.assertEqual((long * QUAD).content, LET * LET)
        self.assertEqual((long * QUAD).primitive, QUAD)
        self.assertEqual((-long).changed(((1, 2), (3, 4))).entries, (-LET * LET,))
        self.assertEqual(factor_between(long, long * long), (LET * LET, 1))

    def test_other_kinds(self):
        for value in (True, False, None, "a", "", (1, 0, -2), [1], {}, {1: 2}):
            for call in (lambda: QUAD + value, lambda: QUAD - value, lambda: QUAD * value,
                         lambda: value + QUAD, lambda: value - QUAD, lambda: value * QUAD):
                with self.assertRaises(TypeError):
                    call()
        for call in (lambda: QUAD + 1, lambda: 1 + QUAD, lambda: QUAD - 1, lambda: 3 * QUAD, lambda: QUAD < QUAD,
                     lambda: QUAD >= CUBIC, lambda: QUAD / QUAD, lambda: QUAD // QUAD, lambda: QUAD % 2,
                     lambda: QUAD ** 2, lambda: +QUAD, lambda: abs(QUAD), lambda: ~QUAD, lambda: QUAD | QUAD):
            with self.assertRaises(TypeError):
                call()

    def test_equality(self):
        self.assertTrue(QUAD == Form((1, 0, -2)))
        self.assertFalse(QUAD != Form((1, 0, -2)))
        self.assertTrue(Form((0,)) != Form((0, 0)))
        for value in NO_FORMS + (True, 1, 0, (1, 0, -2), CUBIC, Form((1, 0, -2, 0)), Form((0, 1, 0, -2))):
            self.assertIs(QUAD == value, False)
            self.assertIs(QUAD != value, True)
            self.assertIs(value == QUAD, False)

    def test_texts(self):
        self.assertEqual(str(Form((0,))), "form 0")
        self.assertEqual(str(Form((-1, LET))), "form -1 " + "9" * 60)
        self.assertEqual(str(Form((0,) * 41)), "form" + " 0" * 41)

    def test_nothing_changes(self):
        entries = (2, 0, -4)
        form = Form(entries)
        for call in (lambda: form + form, lambda: form * form, lambda: -form, lambda: form.primitive,
                     lambda: form.changed(((1, 1), (0, 2))), lambda: form.derived(1, 0), lambda: form.quotient(form)):
            first = call()
            self.assertEqual(first, call())
            self.assertEqual(form.entries, entries)


class Factors(Case, unittest.TestCase):
    def test_multiples(self):
        for form in SOME:
            if not form.is_zero:
                for top, bottom in ((1, 1), (-1, 1), (3, 2), (-2, 5), (6, 7)):
                    self.assertEqual(factor_between(form * bottom, form * top), (top, bottom))
                    self.assertEqual(factor_between(form * bottom * 12, form * top * 12), (top, bottom))
                    self.assertEqual(factor_between(form * -bottom, form * top), (-top, bottom))

    def test_zero_forms(self):
        self.assertEqual(factor_between(Form((0,)), Form((0,))), (1, 1))
        self.assertEqual(factor_between(Form((0,) * 41), Form((0,) * 41)), (1, 1))
        self.assertIsNone(factor_between(Form((0,)), Form((0, 0))))
        self.assertIsNone(factor_between(Form((0, 0)), Form((0, 1))))
        self.assertIsNone(factor_between(Form((0, 1)), Form((0, 0))))

    def test_none(self):
        for one, other in (((1, 2), (2, 5)), ((1, 0), (0, 1)), ((0, 1), (1, 0)), ((1, 2, 0), (1, 2, 1)),
                           ((1, 2), (1, 2, 0)), ((1, 2, 0), (1, 2)), ((2, 0, 4), (3, 0, 7)), ((0, 1), (1, 1))):
            self.assertIsNone(factor_between(Form(one), Form(other)))

    def test_refuses(self):
        for value in NO_FORMS:
            self.refuses(InvalidForm, {}, factor_between, value, QUAD)
            self.refuses(InvalidForm, {}, factor_between, QUAD, value)
            self.refuses(InvalidForm, {}, factor_between, Form((0,)), value)


class Rules(Case, unittest.TestCase):
    def test_contents_of_products(self):
        rows = forms_of(21, 30, range(6), 30)
        for one in rows:
            for other in rows:
                self.assertEqual((one * other).content, one.content * other.content)

    def test_changes_one_after_the_other(self):
        pick = picker(22)
        for form in SOME:
            for _ in range(6):
                one, other = some_table(pick), some_table(pick)
                self.assertEqual(form.changed(one).changed(other), form.changed(matrix_product(one, other)))

    def test_changed_products(self):
        pick = picker(23)
        for _ in range(60):
            one, other = some_form(pick, pick.randint(0, 5)), some_form(pick, pick.randint(0, 5))
            table = some_table(pick)
            self.assertEqual((one * other).changed(table), one.changed(table) * other.changed(table))

    def test_changed_to_zero(self):
        pick = picker(24)
        for _ in range(200):
            form, table = some_form(pick, pick.randint(0, 4), 1), some_table(pick, 2)
            (p, q), (r, s) = table
            if p * s != q * r:
                self.assertIs(form.changed(table).is_zero, form.is_zero)
        self.assertFalse(QUAD.changed(((1, 0), (0, 0))).is_zero)
        self.assertTrue(Form((0, 1, 0)).changed(((1, 1), (0, 0))).is_zero)

    def test_both_derivatives(self):
        for form in SOME:
            if form.degree > 0:
                total = Form((1, 0)) * form.derived(1, 0) + Form((0, 1)) * form.derived(0, 1)
                self.assertEqual(total, form * form.degree)

    def test_roots_in_products(self):
        pick = picker(25)
        for _ in range(40):
            one = Form.of_points(tuple(pick.choice(POINTS[:5]) for _ in range(4))) * pick.choice((1, -3))
            other = Form.of_points(tuple(pick.choice(POINTS[:5]) for _ in range(3))) * QUAD
            total = 0
            for point in POINTS:
                self.assertEqual((one * other).times_at(point), one.times_at(point) + other.times_at(point))
                self.assertEqual(one.times_at(point) > 0, one.value(*point) == 0)
                self.assertEqual(one.times_at(point) > 0, one.quotient(line_of(point)) is not None)
                total += other.times_at(point)
            self.assertEqual(total, 3)

    def test_what_is_not_true(self):
        roots = [Form((1, 0, -2)).times_at(point) for point in POINTS]
        self.assertEqual(roots, [Form((1, 0, -3)).times_at(point) for point in POINTS])
        self.assertIsNone(factor_between(Form((1, 0, -2)), Form((1, 0, -3))))
        even = Form((0, 1, 1, 0))
        self.assertTrue(all(even.value(x, y) % 2 == 0 for x in range(-3, 4) for y in range(-3, 4)))
        self.assertEqual(even.content, 1)
        self.assertEqual((Form((1, 1)) + Form((1, 1))).primitive.entries, (1, 1))


class Examples(Case, unittest.TestCase):
    def test_document(self):
        self.run_examples("""
>>> QUAD = Form((1, 0, -2))
>>> CUBIC = Form((1, 0, -3, 1))
>>> FOUR = Form((1, 0, 0, 1, 0))
>>> SIX = Form((0, 1, 0, 0, 0, -1, 0))
>>> BENT = Form((1, 2, 1, 0))
>>> [CUBIC.value(2, 1), CUBIC.changed(((1, 1), (0, 1))).entries, CUBIC.derived(1, 0).entries, CUBIC.derived(1, 1).entries, str(CUBIC)]
[3, (1, 3, 0, -1), (3, 0, -3), (0, -6), 'form 1 0 -3 1']
>>> [line_of((1, -1)).entries, Form.of_points(((0, 1), (1, -1))).entries, Form.power((1, -2), 3).entries, Form.of_points(()).entries]
[(-1, -1), (-1, -1, 0), (1, -6, 12, -8), (1,)]
>>> [BENT.times_at((1, -1)), BENT.times_at((1, 0)), BENT.quotient(Form((1, 1))).entries, CUBIC.quotient(Form((1, 0)))]
[2, 0, (1, 1, 0), None]
>>> [Form((4, -6)).content, Form((-4, 6)).primitive.entries, (QUAD * QUAD).entries, (QUAD * 3 - QUAD).entries, (-QUAD).entries, len(CUBIC), list(QUAD)]
[2, (2, -3), (1, 0, -4, 0, 4), (2, 0, -4), (-1, 0, 2), 4, [1, 0, -2]]
>>> [factor_between(Form((2, 4)), Form((3, 6))), factor_between(QUAD, CUBIC), factor_between(Form((0, 0)), Form((0, 0)))]
[(3, 2), None, (1, 1)]
>>> QUAD + CUBIC
raises InvalidOperation
>>> CUBIC.derived(2, 2)
raises InvalidNumber(2)
""", {**vars(errors), "Form": Form, "line_of": line_of, "factor_between": factor_between})


if __name__ == "__main__":
    unittest.main()
