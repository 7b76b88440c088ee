import unittest
from itertools import product
from math import prod

from sourceforms import errors
from sourceforms.errors import InvalidForm, InvalidOperation, TooMany
from sourceforms.form.forms import Form, factor_between
from sourceforms.root import common as module
from sourceforms.root.common import bezout_table, common_form, discriminant, plain_part, resultant, sylvester_table, times_parts
from tests.support import BENT, CUBIC, FOUR, LET, NO_FORMS, QUAD, SIX, Case, determinant_of, picker, product_of, rank_of
from tests.support import some_form, some_points, some_table
from tests.test_forms import value_of
from tests.test_tables import reckoned_determinant

NAMES = {**vars(errors), **vars(module), "Form": Form, "QUAD": QUAD, "CUBIC": CUBIC, "FOUR": FOUR, "SIX": SIX, "BENT": BENT}
# Forms without a common root, by pairs, and without repeated ones; some have roots over greater fields only.
PARTS = tuple(Form(row) for row in (
    (1, 0), (0, 1), (1, 1), (3, -7), (5, 2), (1, 0, -2), (1, 0, 1), (1, 1, 1), (2, 0, -5), (1, 0, 0, -2), (1, 0, 0, 0, 1)))


def powers(parts):
    """The product of some forms, each so often."""
    return product_of([part for part, often in parts for _ in range(often)])


def some_parts(pick, many, most, often=4):
    """Different forms without common roots, each with how often it is taken, of a degree up to the most in all."""
    while True:
        found = [(part, pick.randint(1, often)) for part in pick.sample(PARTS, pick.randint(1, many))]
        if sum(part.degree * times for part, times in found) <= most:
            return found


def sylvester(one, other):
    m, n = one.degree, other.degree
    rows = [[0] * i + list(one) + [0] * (n - 1 - i) for i in range(n)]
    return tuple(tuple(row) for row in rows + [[0] * i + list(other) + [0] * (m - 1 - i) for i in range(m)])


def bezout_by_letters(one, other):
    """Divide f(x, y) g(u, v) - f(u, v) g(x, y) by x v - y u, as polynomials in x, y, u, v with dicts of exponents."""
    n = one.degree
    left = {}
    for i, a in enumerate(one):
        for j, b in enumerate(other):
            left[n - i, i, n - j, j] = left.get((n - i, i, n - j, j), 0) + a * b
            left[n - j, j, n - i, i] = left.get((n - j, j, n - i, i), 0) - a * b
    found = {}
    while any(left.values()):
        key = max(key for key, number in left.items() if number)
        number = left[key]
        a, b, c, d = key
        assert a and d
        found[b, d - 1] = number
        left[key] = 0
        left[a - 1, b + 1, c + 1, d - 1] = left.get((a - 1, b + 1, c + 1, d - 1), 0) + number
    return tuple(tuple(found.get((i, j), 0) for j in range(n)) for i in range(n))


class Resultants(Case, unittest.TestCase):
    def test_tables(self):
        pick = picker(861)
        for _ in range(60):
            one, other = some_form(pick, pick.randint(1, 5), 3), some_form(pick, pick.randint(1, 5), 3)
            table = sylvester(one, other)
            self.assertEqual(sylvester_table(one, other), table)
            if len(table) <= 6:
                self.assertEqual(resultant(one, other), reckoned_determinant(table))

    def test_by_values(self):
        """The product of the values at the points whose lines make the first form."""
        pick = picker(862)
        for _ in range(80):
            points = [pick.choice(((1, 0), (0, 1), (1, -2), (3, 5), (7, 1))) for _ in range(pick.randint(1, 6))]
            other = some_form(pick, pick.randint(1, 6), pick.choice((1, 9)))
            one = Form.of_points(tuple(points))
            self.assertEqual(resultant(one, other), prod(value_of(other.entries, a, b) for a, b in points))

    def test_rules(self):
        pick = picker(863)
        for _ in range(60):
            f, g, h = (some_form(pick, pick.randint(1, 4), 4) for _ in range(3))
            self.assertEqual(resultant(f * h, g), resultant(f, g) * resultant(h, g))
            self.assertEqual(resultant(g, f), (-1) ** (f.degree * g.degree) * resultant(f, g))
            table = some_table(pick, 3)
            factor = determinant_of(table) ** (f.degree * g.degree)
            self.assertEqual(resultant(f.changed(table), g.changed(table)), factor * resultant(f, g))

    def test_common_roots(self):
        pick = picker(864)
        for part in PARTS:
            one, other = part * some_form(pick, 2), part * some_form(pick, 1)
            self.assertEqual(resultant(one, other), 0)
        self.assertEqual(resultant(Form((0, 0)), CUBIC), 0)
        for one, other in product(PARTS, repeat=2):
            self.assertEqual(resultant(one, other) == 0, one == other)

    def test_greatest(self):
        pick = picker(865)
        for m, n in ((12, 12), (23, 1), (1, 23), (4, 20)):
            one, other = some_form(pick, m, LET), some_form(pick, n, LET)
            self.assertEqual(len(sylvester_table(one, other)), 24)
            found = self.soon(3, resultant, one, other)
            self.assertEqual(self.soon(3, resultant, other, one), found if m * n % 2 == 0 else -found)
            self.assertNotEqual(found, 0)
        points = tuple(some_points(pick, 12, 9))
        other = some_form(pick, 12, LET)
        self.assertEqual(resultant(Form.of_points(points), other), prod(value_of(other.entries, a, b) for a, b in points))
        small = some_form(pick, 8)
        self.soon(2, lambda: [resultant(small, small) for _ in range(100)])

    def test_longer_entries(self):
        long = QUAD * LET * LET
        self.assertEqual(resultant(long, Form((1, 1))), -LET * LET)
        self.assertEqual(sylvester_table(long, Form((1, 1)))[0], long.entries)

    def test_refuses(self):
        for call in (sylvester_table, resultant):
            for value in NO_FORMS:
                self.refuses(InvalidForm, {}, call, value, CUBIC)
                self.refuses(InvalidForm, {}, call, value, None)
                self.refuses(InvalidForm, {}, call, Form((1,)), value)
            for one, other in ((Form((1,)), CUBIC), (CUBIC, Form((0,))), (Form((2,)), Form((3,))), (Form((1,)), Form((1,) * 41))):
                self.refuses(InvalidOperation, {}, call, one, other)
            for one, other in ((Form((1,) * 13), Form((1,) * 14)), (Form((0,) * 25), Form((1, 1))), (Form((1,) * 41), Form((1,) * 41))):
                self.refuses(TooMany, {"limit": 24}, call, one, other)


class Bezout(Case, unittest.TestCase):
    def test_by_letters(self):
        pick = picker(866)
        for _ in range(60):
            n = pick.randint(1, 6)
            one, other = some_form(pick, n, 5), pick.choice((some_form(pick, n, 5), Form((0,) * (n + 1))))
            self.assertEqual(bezout_table(one, other), bezout_by_letters(one, other))

    def test_rules(self):
        pick = picker(867)
        for _ in range(60):
            part = pick.choice(PARTS[:8] + (Form((1,)),))
            n = part.degree + pick.randint(1, 3)
            one, other = part * some_form(pick, n - part.degree, 4), part * some_form(pick, n - part.degree, 4)
            table = bezout_table(one, other)
            self.assertEqual(table, tuple(zip(*table)))
            self.assertEqual(bezout_table(other, one), tuple(tuple(-entry for entry in row) for row in table))
            if n <= 4:
                self.assertEqual(reckoned_determinant(table), (-1) ** (n * (n - 1) // 2) * resultant(one, other))
            if not one.is_zero and not other.is_zero:
                self.assertEqual(rank_of(table), n - common_form(one, other).degree)
                self.assertEqual(rank_of(sylvester(one, other)), 2 * n - common_form(one, other).degree)
            self.assertEqual(rank_of(bezout_table(one, Form((0,) * (n + 1)))), 0)

    def test_greatest(self):
        pick = picker(868)
        one, other = some_form(pick, 24, LET), some_form(pick, 24, LET)
        table = self.soon(2, bezout_table, one, other)
        self.assertEqual((len(table), len(table[23])), (24, 24))
        self.assertEqual(table[0][0], one.entries[0] * other.entries[1] - one.entries[1] * other.entries[0])
        self.assertEqual(table[23][23], one.entries[23] * other.entries[24] - one.entries[24] * other.entries[23])

    def test_refuses(self):
        for value in NO_FORMS:
            self.refuses(InvalidForm, {}, bezout_table, value, CUBIC)
            self.refuses(InvalidForm, {}, bezout_table, value, None)
            self.refuses(InvalidForm, {}, bezout_table, CUBIC, value)
        for one, other in ((CUBIC, QUAD), (Form((1,)), Form((2,))), (Form((1,) * 26), Form((1,) * 27)), (Form((0,)), CUBIC)):
            self.refuses(InvalidOperation, {}, bezout_table, one, other)
        for n in (25, 40):
            self.refuses(TooMany, {"limit": 24}, bezout_table, Form((1,) * (n + 1)), Form((0,) * (n + 1)))


class Common(Case, unittest.TestCase):
    def test_products(self):
        pick = picker(869)
        for _ in range(120):
            first, second = some_parts(pick, 3, 12), some_parts(pick, 3, 12)
            one, other = powers(first) * pick.choice((1, -6)), powers(second) * pick.choice((1, -35))
            shared = [(part, min(often, dict(self.keyed(second)).get(part.entries, 0))) for part, often in first]
            wanted = powers([(part, often) for part, often in shared if often]).primitive
            self.assertEqual(common_form(one, other), wanted)
            self.assertEqual(common_form(other, one), wanted)

    def keyed(self, parts):
        return [(part.entries, often) for part, often in parts]

    def test_divides_both(self):
        pick = picker(870)
        for _ in range(80):
            part = some_form(pick, pick.randint(0, 3), 3)
            one, other = part * some_form(pick, pick.randint(0, 4), 3), part * some_form(pick, pick.randint(0, 4), 3)
            if one.is_zero or other.is_zero:
                self.refuses(InvalidOperation, {}, common_form, one, other)
                continue
            found = common_form(one, other)
            self.assertEqual((found, found.content), (found.primitive, 1))
            for form in (one, other):
                self.assertIsNotNone(form.quotient(found))
            self.assertIsNotNone(found.quotient(part.primitive))
            rest = [form.quotient(found) for form in (one, other)]
            if all(form.degree for form in rest):
                self.assertEqual(rank_of(sylvester(*rest)), len(sylvester(*rest)))

    def test_edges(self):
        self.assertEqual(common_form(Form((6,)), CUBIC), Form((1,)))
        self.assertEqual(common_form(Form((6,)), Form((-4,))), Form((1,)))
        self.assertEqual(common_form(Form((0, 0, 5)), Form((0, 1, 0))), Form((0, 1)))
        self.assertEqual(common_form(Form((-2, 4)), Form((-3, 6))), Form((1, -2)))
        self.assertEqual(common_form(SIX, SIX * -7), SIX)

    def test_greatest(self):
        pick = picker(871)
        one, other = some_form(pick, 40, LET), some_form(pick, 40, LET)
        self.assertEqual(self.soon(5, common_form, one, other), Form((1,)))
        part = some_form(pick, 20, 10 ** 29).primitive
        one, other = part * some_form(pick, 20, 10 ** 28), part * some_form(pick, 19, 10 ** 28)
        self.assertEqual(self.soon(5, common_form, one, other), part)

    def test_refuses(self):
        for value in NO_FORMS:
            self.refuses(InvalidForm, {}, common_form, value, CUBIC)
            self.refuses(InvalidForm, {}, common_form, value, None)
            self.refuses(InvalidForm, {}, common_form, Form((0,)), value)
        for one, other in ((Form((0,)), CUBIC), (CUBIC, Form((0, 0))), (Form((0,) * 41), Form((0,) * 41))):
            self.refuses(InvalidOperation, {}, common_form, one, other)


class Discriminants(Case, unittest.TestCase):
    def test_by_lines(self):
        pick = picker(872)
        for _ in range(100):
            n = pick.randint(2, 6)
            lines = [(pick.randint(-4, 4), pick.randint(-4, 4)) for _ in range(n)]
            form = product_of([Form(line) for line in lines])
            wanted = prod((a[0] * b[1] - a[1] * b[0]) ** 2 for k, a in enumerate(lines) for b in lines[k + 1:])
            self.assertEqual(discriminant(form), wanted)

    def test_by_derivatives(self):
        pick = picker(873)
        for _ in range(40):
            form = some_form(pick, pick.randint(2, 6), 5)
            n = form.degree
            told = (-1) ** (n * (n - 1) // 2) * n ** (n - 2) * discriminant(form)
            self.assertEqual(resultant(form.derived(1, 0), form.derived(0, 1)), told)

    def test_rules(self):
        pick = picker(874)
        for _ in range(40):
            f, h = some_form(pick, pick.randint(2, 4), 4), some_form(pick, pick.randint(2, 4), 4)
            self.assertEqual(discriminant(f * h), discriminant(f) * discriminant(h) * resultant(f, h) ** 2)
            table = some_table(pick, 3)
            n = f.degree
            self.assertEqual(discriminant(f.changed(table)), determinant_of(table) ** (n * (n - 1)) * discriminant(f))

    def test_small_degrees(self):
        for a, b, c in product(range(-3, 4), repeat=3):
            self.assertEqual(discriminant(Form((a, b, c))), b * b - 4 * a * c)
        for a, b, c, d in product((-2, 0, 1, 3), repeat=4):
            wanted = b * b * c * c - 4 * a * c ** 3 - 4 * b ** 3 * d - 27 * a * a * d * d + 18 * a * b * c * d
            self.assertEqual(discriminant(Form((a, b, c, d))), wanted)

    def test_zero_exactly_for_repeated_roots(self):
        pick = picker(875)
        for _ in range(80):
            parts = some_parts(pick, 3, 12, 2)
            form = powers(parts)
            if form.degree >= 2:
                self.assertEqual(discriminant(form) == 0, any(often > 1 for _, often in parts))
        for n in range(2, 13):
            self.assertEqual(discriminant(Form((0,) * (n + 1))), 0)
            self.assertEqual(discriminant(Form((1,) + (0,) * n)), 0)

    def test_greatest(self):
        form = some_form(picker(876), 12, LET)
        self.assertNotEqual(self.soon(3, discriminant, form), 0)
        self.assertEqual(discriminant(form), discriminant(form.changed(((1, 1), (0, 1)))))
        self.soon(2, lambda: [discriminant(Form((1, 2, 3, 4, 5, 6, 7, 8, k))) for k in range(100)])

    def test_refuses(self):
        for value in NO_FORMS:
            self.refuses(InvalidForm, {}, discriminant, value)
        for form in (Form((1,)), Form((0,)), Form((1, 2)), Form((0, 0))):
            self.refuses(InvalidOperation, {}, discriminant, form)
        for n in (13, 14, 40):
            self.refuses(TooMany, {"limit": 12}, discriminant, Form((1,) * (n + 1)))
            self.refuses(TooMany, {"limit": 12}, discriminant, Form((0,) * (n + 1)))


class Parts(Case, unittest.TestCase):
    def test_products(self):
        pick = picker(877)
        for _ in range(120):
            parts = some_parts(pick, 4, 24)
            number = pick.choice((1, -1, 6, -35))
            form = powers(parts) * number
            self.assertEqual(plain_part(form), powers([(part, 1) for part, _ in parts]).primitive)
            wanted = {}
            for part, often in parts:
                wanted[often] = wanted.get(often, Form((1,))) * part
            found = times_parts(form)
            self.assertEqual(list(found), sorted(wanted))
            for often, part in found.items():
                self.assertEqual(part, wanted[often].primitive)
            table = some_table(pick, 3)
            if determinant_of(table):
                changed = times_parts(form.changed(table))
                self.assertEqual({often: part.changed(table).primitive for often, part in found.items()}, changed)

    def test_any_form(self):
        pick = picker(878)
        for _ in range(100):
            form = some_form(pick, pick.randint(0, 8), pick.choice((1, 2, 9)))
            if form.is_zero:
                continue
            found = times_parts(form)
            whole = powers([(part, often) for often, part in found.items()])
            self.assertIsNotNone(factor_between(whole, form))
            self.assertTrue(all(part == part.primitive and part.degree for part in found.values()))
            self.assertEqual(plain_part(form), powers([(part, 1) for part in found.values()]))
            plain = plain_part(form)
            if plain.degree > 1:
                self.assertNotEqual(resultant(plain.derived(1, 0), plain.derived(0, 1)), 0)

    def test_edges(self):
        for entry in (7, -1, LET):
            self.assertEqual((plain_part(Form((entry,))), times_parts(Form((entry,)))), (Form((1,)), {}))
        for n in range(1, 41):
            self.assertEqual(times_parts(Form((0,) * n + (-5,))), {n: Form((0, 1))})
            self.assertEqual(plain_part(Form((5,) + (0,) * n)), Form((1, 0)))
        self.assertEqual(times_parts(Form((0, -6))), {1: Form((0, 1))})

    def test_greatest(self):
        pick = picker(879)
        form = some_form(pick, 40, LET)
        self.assertEqual(self.soon(6, plain_part, form), form.primitive)
        self.assertEqual(self.soon(6, times_parts, form), {1: form.primitive})
        half = some_form(pick, 20, 10 ** 28).primitive
        self.assertEqual(self.soon(6, times_parts, half * half), {2: half})
        first, second, third = (some_form(pick, n, 10 ** 9).primitive for n in (7, 6, 5))
        form = first * second * second * third * third * third
        self.assertEqual(self.soon(6, times_parts, form), {1: first, 2: second, 3: third})

    def test_refuses(self):
        for call in (plain_part, times_parts):
            for value in NO_FORMS:
                self.refuses(InvalidForm, {}, call, value)
            for n in (0, 1, 5, 40):
                self.refuses(InvalidOperation, {}, call, Form((0,) * (n + 1)))


class Statements(Case, unittest.TestCase):
    def test_what_is_not_true(self):
        one, other = QUAD * Form((1, 1)), QUAD * Form((1, 3))
        self.assertEqual((resultant(one, other), common_form(one, other)), (0, QUAD))
        self.assertNotEqual(discriminant(FOUR * QUAD), discriminant(FOUR) * discriminant(QUAD))
        self.assertGreater(discriminant(Form((1, 0, 1)) * Form((1, 0, 2))), 0)


class Examples(Case, unittest.TestCase):
    def test_document(self):
        self.run_examples("""
>>> LINE = Form((1, 1))
>>> [sylvester_table(QUAD, LINE), resultant(QUAD, LINE), resultant(LINE, QUAD), resultant(CUBIC, QUAD), resultant(BENT, LINE)]
[((1, 0, -2), (1, 1, 0), (0, 1, 1)), -1, -1, -1, 0]
>>> [bezout_table(QUAD, Form((0, 1, 0))), common_form(BENT, Form((2, 0, -2))).entries, common_form(QUAD, QUAD).entries, common_form(CUBIC, QUAD).entries]
[((1, 0), (0, 2)), (1, 1), (1, 0, -2), (1,)]
>>> [discriminant(form) for form in (QUAD, CUBIC, FOUR, BENT)]
[8, 81, -27, 0]
>>> [plain_part(BENT).entries, [(often, part.entries) for often, part in times_parts(Form((-4, -8, -4, 0))).items()], times_parts(Form((7,)))]
[(1, 1, 0), [(1, (1, 0)), (2, (1, 1))], {}]
>>> discriminant(LINE)
raises InvalidOperation
""", NAMES)

    def test_places(self):
        self.assertEqual((module.MAX_SUM, module.MAX_DISCRIMINANT), (24, 12))
        for call in (sylvester_table, resultant, bezout_table, common_form, discriminant, plain_part, times_parts):
            self.assertEqual(call.__module__, "sourceforms.root.common")


if __name__ == "__main__":
    unittest.main()
