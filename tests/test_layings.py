import unittest
from fractions import Fraction
from math import comb, factorial, gcd

from sourceforms import errors
from sourceforms.base.tables import rank
from sourceforms.errors import InvalidForm, InvalidOperation, InvalidRows, InvalidTable, Refused, TooMany
from sourceforms.form import layings
from sourceforms.form.forms import Form
from sourceforms.form.layings import laid, pair_table, run_rows, table_of_parts, table_parts
from tests.support import BENT, CUBIC, FOUR, LET, LONG, NO_INTEGERS, NO_TUPLES, QUAD, SIX, Case
from tests.support import picker, some_form, some_table

NO_FORMS = NO_TUPLES[:-1] + ((1, 0, -2), (), (QUAD,), "form 1 0")
NO_ROWS = NO_TUPLES + (
    (1,), ((0, 0),), ((0, 0, 0, 0),), ((),), ([0, 0, 0],), (None,), ("abc",), (QUAD,), [(0, 0, 0)],
    ((1, 0, 0),), ((0, 1, 0),), ((-1, 0, 0),), ((0, -1, 0),), ((0, 0, -1),), ((0, 0, 0), (2, 0, 0)), ((0, 0, 0), (0, 2, 0)),
    ((True, 0, 0),), ((0, False, 0),), ((0, 0, True),), ((None, 0, 0),), ((0, "0", 0),), ((0, 0, None),),
    ((0, 0, LONG),), ((0, -LONG, 0),), ((0, 0, 0), (0, 0, (1,))), ((0, 0, 0),) * 25,
    ((0, 0, 0), (1, 1, 0), (2, 2, 0), (3, 3, 0), (4, 4, 0)),
)
NO_PAIR_TABLES = NO_TUPLES + (
    (), ((),), (1,), ((1,), (1, 2)), ([1],), [(1,)], ((True,),), ((None, 1),), (("1",),), ((LONG,),), ((1, 2), (3, -LONG)),
    ((0,),) * 14, ((0,) * 14,), ((QUAD,),), (QUAD,), ((1, 2), ()), (((1,),),),
)
NAMES = {**vars(errors), "Form": Form, "QUAD": QUAD, "CUBIC": CUBIC, "FOUR": FOUR, "SIX": SIX, "BENT": BENT}


def derived(entries, one, other):
    degree = len(entries) - 1
    for _ in range(one):
        entries = [(degree - i) * entries[i] for i in range(degree)]
        degree -= 1
    for _ in range(other):
        entries = [i * entries[i] for i in range(1, degree + 1)]
        degree -= 1
    return entries


def reckoned_laying(one, other, times):
    """The laying as [0.10] tells it, derivative by derivative."""
    total = [0] * (len(one) + len(other) - 1 - 2 * times)
    for i in range(times + 1):
        first, second = derived(one, times - i, i), derived(other, i, times - i)
        for a, left in enumerate(first):
            for b, right in enumerate(second):
                total[a + b] += (-1) ** i * comb(times, i) * left * right
    return tuple(total)


def reckoned_parts(table):
    """The parts, by polynomials in x, y, u, v as dicts from exponents."""
    first, second = len(table) - 1, len(table[0]) - 1
    left = {}
    for i, row in enumerate(table):
        for j, entry in enumerate(row):
            left[first - i, i, second - j, j] = entry
    found = []
    for times in range(min(first, second) + 1):
        part = [0] * (first + second - 2 * times + 1)
        for (_, i, _, j), entry in left.items():
            part[i + j] += entry
        found.append(tuple(part))
        less = {}
        for (a, b, c, d), entry in left.items():
            if a and d:
                less[a - 1, b, c, d - 1] = less.get((a - 1, b, c, d - 1), 0) + a * d * entry
            if b and c:
                less[a, b - 1, c - 1, d] = less.get((a, b - 1, c - 1, d), 0) - b * c * entry
        left = less
    return found


def entries_of(parts):
    return [part.entries for part in parts]


SOME = [QUAD, CUBIC, FOUR, SIX, BENT, Form((0,)), Form((5,)), Form((0, 0, 0)), Form((2, -3))]


class Laid(Case, unittest.TestCase):
    def test_many(self):
        pick = picker(51)
        rows = SOME + [some_form(pick, pick.randint(0, 7)) for _ in range(8)] + [some_form(pick, 4, LET)]
        for one in rows:
            for other in rows:
                for times in range(min(one.degree, other.degree) + 1):
                    self.assertEqual(laid(one, other, times).entries, reckoned_laying(one.entries, other.entries, times))

    def test_forty(self):
        pick = picker(52)
        one, other = some_form(pick, 40), some_form(pick, 40)
        for times in (20, 21, 30, 40):
            self.assertEqual(laid(one, other, times).entries, reckoned_laying(one.entries, other.entries, times))
        self.assertEqual(laid(one, Form((3,)), 0), one * 3)
        self.assertEqual(laid(Form((0,) * 41), other, 40).entries, (0,))
        for times in (0, 1, 19):
            self.refuses(TooMany, {"limit": 40}, laid, one, other, times)
        self.refuses(TooMany, {"limit": 40}, laid, one, Form((1, 2)), 0)
        self.assertEqual(laid(one, Form((1, 2)), 1).degree, 39)

    def test_refuses(self):
        for value in NO_FORMS:
            self.refuses(InvalidForm, {}, laid, value, QUAD, 1)
            self.refuses(InvalidForm, {}, laid, QUAD, value, 1)
            self.refuses(InvalidForm, {}, laid, value, value, True)
            self.refuses(InvalidForm, {}, laid, QUAD, value, 9)
        for value in NO_INTEGERS + (-1, 3, 40):
            self.refuses_number(value, laid, QUAD, CUBIC, value)
            self.refuses_number(value, laid, CUBIC, QUAD, value)
        self.refuses_number(1, laid, QUAD, Form((1,)), 1)
        self.refuses_number(41, laid, Form((1,) * 41), Form((1,) * 41), 41)

    def test_product_and_turning(self):
        pick = picker(53)
        for _ in range(60):
            one, other = some_form(pick, pick.randint(0, 6)), some_form(pick, pick.randint(0, 6))
            self.assertEqual(laid(one, other, 0), one * other)
            for times in range(min(one.degree, other.degree) + 1):
                self.assertEqual(laid(other, one, times), laid(one, other, times) * (-1) ** times)
            for times in range(1, one.degree + 1, 2):
                self.assertTrue(laid(one, one, times).is_zero)

    def test_changed_layings(self):
        pick = picker(54)
        for _ in range(60):
            one, other = some_form(pick, pick.randint(0, 5)), some_form(pick, pick.randint(0, 5))
            (p, q), (r, s) = table = some_table(pick)
            for times in range(min(one.degree, other.degree) + 1):
                wanted = laid(one, other, times).changed(table) * (p * s - q * r) ** times
                self.assertEqual(laid(one.changed(table), other.changed(table), times), wanted)

    def test_three_forms(self):
        pick = picker(55)
        for _ in range(40):
            f, g, h = (some_form(pick, pick.randint(1, 6)) for _ in range(3))
            total = f * laid(g, h, 1) * f.degree + g * laid(h, f, 1) * g.degree + h * laid(f, g, 1) * h.degree
            self.assertTrue(total.is_zero)

    def test_powers(self):
        pick = picker(56)
        for _ in range(40):
            form = some_form(pick, pick.randint(0, 7))
            a, b = pick.randint(-5, 5), pick.randint(-5, 5)
            wanted = factorial(form.degree) ** 2 * form.value(b, -a)
            self.assertEqual(laid(form, Form.power((a, b), form.degree), form.degree).entries, (wanted,))

    def test_what_is_not_true(self):
        self.assertFalse(laid(BENT, BENT, 2).is_zero)
        self.assertEqual((QUAD.content, laid(QUAD, QUAD, 2).content), (1, 16))
        one = laid(QUAD, laid(CUBIC, BENT, 1), 1)
        other = laid(CUBIC, laid(QUAD, BENT, 1), 1)
        self.assertNotEqual(one, other)


class RunRows(Case, unittest.TestCase):
    def test_constants(self):
        self.assertEqual((layings.MOST_ROWS, layings.MOST_SIZE), (24, 24))

    def test_many(self):
        pick = picker(57)
        for _ in range(60):
            form = some_form(pick, pick.randint(0, 5), 3)
            rows, found, sizes = [], [form.entries], [1]
            for _ in range(pick.randint(0, 6)):
                i, j = pick.randrange(len(found)), pick.randrange(len(found))
                times = pick.randint(0, min(len(found[i]), len(found[j])) - 1)
                if sizes[i] + sizes[j] <= 24 and len(found[i]) + len(found[j]) - 2 - 2 * times <= 40:
                    rows.append((i, j, times))
                    found.append(reckoned_laying(found[i], found[j], times))
                    sizes.append(sizes[i] + sizes[j])
            self.assertEqual(entries_of(run_rows(tuple(rows), form)), found)

    def test_edges(self):
        self.assertEqual(run_rows((), CUBIC), (CUBIC,))
        self.assertEqual(len(run_rows(((0, 0, 0),) * 24, Form((2,)))), 25)
        ladder = tuple((0, t, 0) for t in range(23))
        self.assertEqual(run_rows(ladder, Form((2,)))[-1].entries, (2 ** 24,))
        self.refuses(InvalidRows, {}, run_rows, ladder + ((0, 23, 0),), Form((2,)))
        self.assertEqual(run_rows(ladder + ((0, 22, 0),), Form((2,)))[-1].entries, (2 ** 24,))
        doubled = ((0, 0, 0), (1, 1, 0), (2, 2, 0), (3, 3, 0))
        self.assertEqual(run_rows(doubled + ((4, 3, 0),), Form((LET,)))[-1].entries, (LET ** 24,))
        self.refuses(InvalidRows, {}, run_rows, doubled + ((4, 3, 0), (5, 0, 0)), Form((2,)))

    def test_refuses(self):
        for value in NO_ROWS:
            self.refuses(InvalidRows, {}, run_rows, value, CUBIC)
            self.refuses(InvalidRows, {}, run_rows, value, None)
        for value in NO_FORMS:
            self.refuses(InvalidForm, {}, run_rows, ((0, 0, 2),), value)
            self.refuses(InvalidForm, {}, run_rows, ((0, 0, 9),), value)

    def test_rows_that_cannot_be_laid(self):
        for k in (4, 5, 41, LET):
            self.refuses(Refused, {"reason": ("row", 0)}, run_rows, ((0, 0, k),), CUBIC)
        self.refuses(Refused, {"reason": ("row", 1)}, run_rows, ((0, 0, 2), (0, 1, 3), (0, 0, 9)), CUBIC)
        self.refuses(Refused, {"reason": ("row", 2)}, run_rows, ((0, 0, 2), (1, 1, 2), (2, 0, 1)), CUBIC)
        big = Form((1,) * 22)
        self.refuses(Refused, {"reason": ("row", 0)}, run_rows, ((0, 0, 0),), big)
        self.refuses(Refused, {"reason": ("row", 1)}, run_rows, ((0, 0, 1), (0, 1, 10), (0, 0, 40)), big)
        self.assertEqual(run_rows(((0, 0, 1),), big)[1].degree, 40)
        self.refuses(Refused, {"reason": ("row", 0)}, run_rows, ((0, 0, 19),), Form((1,) * 41))
        self.assertEqual(run_rows(((0, 0, 20),), Form((1,) * 41))[1].degree, 40)


class PairTables(Case, unittest.TestCase):
    def test_pair_table(self):
        for one in SOME:
            for other in SOME:
                wanted = tuple(tuple(a * b for b in other) for a in one)
                self.assertEqual(pair_table(one, other), wanted)
        self.assertEqual(pair_table(Form((1,) * 41), Form((2,) * 41)), ((2,) * 41,) * 41)
        for value in NO_FORMS:
            self.refuses(InvalidForm, {}, pair_table, value, QUAD)
            self.refuses(InvalidForm, {}, pair_table, QUAD, value)

    def test_parts(self):
        pick = picker(58)
        for first in range(7):
            for second in range(7):
                table = tuple(tuple(pick.randint(-9, 9) for _ in range(second + 1)) for _ in range(first + 1))
                self.assertEqual(entries_of(table_parts(table)), reckoned_parts(table))
                turned = table_parts(tuple(zip(*table)))
                for k, part in enumerate(table_parts(table)):
                    self.assertEqual(turned[k], part * (-1) ** k)

    def test_parts_of_two_forms(self):
        pick = picker(59)
        for first in range(7):
            for second in range(7):
                one, other = some_form(pick, first), some_form(pick, second, 10 ** 50)
                parts = table_parts(pair_table(one, other))
                self.assertEqual(parts, tuple(laid(one, other, k) for k in range(min(first, second) + 1)))

    def test_bounds_of_parts(self):
        for rows, columns in ((1, 13), (13, 1), (7, 7), (6, 8), (1, 1), (2, 12)):
            parts = table_parts(((LET,) * columns,) * rows)
            self.assertEqual([part.degree for part in parts],
                             [rows + columns - 2 - 2 * k for k in range(min(rows, columns))])
        for rows, columns in ((2, 13), (13, 2), (13, 13), (7, 8), (8, 7)):
            self.refuses(TooMany, {"limit": 12}, table_parts, ((1,) * columns,) * rows)
        for value in NO_PAIR_TABLES:
            self.refuses(InvalidTable, {}, table_parts, value)
        self.refuses(InvalidTable, {}, table_parts, ((1,) * 13,) * 12 + ((True,) * 13,))
        self.refuses(InvalidTable, {}, table_parts, ((1,) * 13,) * 14)

    def test_rank_one(self):
        pick = picker(60)
        for _ in range(60):
            one, other = some_form(pick, pick.randint(0, 4), 2), some_form(pick, pick.randint(0, 4), 2)
            self.assertLessEqual(rank(pair_table(one, other)), 1)

    def test_table_of_parts(self):
        pick = picker(61)
        for first in range(13):
            for second in range(13 - first):
                for most in (1, 9, LET):
                    parts = tuple(some_form(pick, first + second - 2 * k, most) for k in range(min(first, second) + 1))
                    self.check_table(first, second, parts)

    def check_table(self, first, second, parts):
        table, bottom = table_of_parts(first, second, parts)
        self.assertEqual((len(table), {len(row) for row in table}), (first + 1, {second + 1}))
        self.assertGreaterEqual(bottom, 1)
        self.assertEqual(gcd(bottom, *[entry for row in table for entry in row]), 1)
        self.assertEqual(reckoned_parts(table), [tuple(entry * bottom for entry in part) for part in parts])

    def test_tables_come_back(self):
        pick = picker(62)
        for _ in range(150):
            first = pick.randint(0, 12)
            second = pick.randint(0, 12 - first)
            table = tuple(tuple(pick.randint(-9, 9) for _ in range(second + 1)) for _ in range(first + 1))
            self.assertEqual(table_of_parts(first, second, table_parts(table)), (table, 1))

    def test_parts_of_longer_integers(self):
        table = ((LET, 1), (-LET, LET))
        parts = table_parts(table)
        self.assertEqual(table_of_parts(1, 1, parts), (table, 1))
        longer = tuple(part * LET for part in parts)
        self.assertEqual(table_of_parts(1, 1, longer), (tuple(tuple(a * LET for a in row) for row in table), 1))

    def test_zero_parts(self):
        for first in range(7):
            for second in range(7):
                parts = tuple(Form((0,) * (first + second - 2 * k + 1)) for k in range(min(first, second) + 1))
                self.assertEqual(table_of_parts(first, second, parts), (((0,) * (second + 1),) * (first + 1), 1))
                if first == second:
                    last = parts[:-1] + (Form((1,)),)
                    self.check_table(first, second, last)

    def test_solved_in_fractions(self):
        """For the degrees 1 and 1 the equations are few enough to be solved by hand."""
        for a in range(-2, 3):
            for b in range(-2, 3):
                table, bottom = table_of_parts(1, 1, (Form((5, a, -1)), Form((b,))))
                right = [[Fraction(5), Fraction(a + b, 2)], [Fraction(a - b, 2), Fraction(-1)]]
                self.assertEqual([[Fraction(entry, bottom) for entry in row] for row in table], right)

    def test_table_of_parts_refuses(self):
        good = (Form((1, 1, -2, -2)), Form((2, 4)))
        for value in NO_INTEGERS + (-1, 13):
            self.refuses_number(value, table_of_parts, value, 1, good)
            self.refuses_number(value, table_of_parts, value, value, good)
            self.refuses_number(value, table_of_parts, 2, value, good)
            self.refuses_number(value, table_of_parts, 2, value, None)
        for first in range(13):
            self.refuses_number(13 - first, table_of_parts, first, 13 - first, good)
        for value in NO_TUPLES + ((), good[:1], good + (Form((1,)),), good[::-1], (good[0], (2, 4)), (good[0], None),
                                  (good[0], Form((2, 4, 0))), (QUAD, good[1]), list(good), ((1, 1, -2, -2), good[1])):
            self.refuses(InvalidOperation, {}, table_of_parts, 2, 1, value)
            self.refuses(InvalidOperation, {}, table_of_parts, 1, 2, value)
        self.assertEqual(table_of_parts(0, 0, (Form((7,)),)), (((7,),), 1))
        self.assertEqual(table_of_parts(0, 12, (Form((1,) * 13),)), (((1,) * 13,), 1))

    def test_multiples_have_multiples_as_parts(self):
        parts = (Form((2, 0, 4)), Form((6,)))
        half = tuple(Form(tuple(entry // 2 for entry in part)) for part in parts)
        first, second = table_of_parts(1, 1, parts), table_of_parts(1, 1, half)
        self.assertEqual(first, (((2, 3), (-3, 4)), 1))
        self.assertEqual(second, (((2, 3), (-3, 4)), 2))


class Examples(Case, unittest.TestCase):
    def test_document(self):
        self.run_examples("""
>>> [laid(QUAD, QUAD, 2).entries, laid(CUBIC, CUBIC, 2).entries, laid(CUBIC, CUBIC, 1).entries, laid(FOUR, FOUR, 4).entries]
[(-16,), (-72, 72, -72), (0, 0, 0, 0, 0), (0,)]
>>> [row.entries for row in run_rows(((0, 0, 2), (0, 1, 1), (1, 1, 2)), CUBIC)]
[(1, 0, -3, 1), (-72, 72, -72), (216, -1296, 648, 216), (31104,)]
>>> laid(CUBIC, Form((8, 12, 6, 1)), 3) == Form((36 * CUBIC.value(1, -2),))
True
>>> [pair_table(QUAD, Form((1, 1))), [part.entries for part in table_parts(((1, 1), (0, 0), (-2, -2)))]]
[((1, 1), (0, 0), (-2, -2)), [(1, 1, -2, -2), (2, 4)]]
>>> [table_of_parts(2, 1, (Form((1, 1, -2, -2)), Form((2, 4)))), table_of_parts(1, 1, (Form((1, 0, 1)), Form((1,))))]
[(((1, 1), (0, 0), (-2, -2)), 1), (((2, 1), (-1, 2)), 2)]
>>> run_rows(((0, 0, 2), (1, 1, 3)), CUBIC)
raises Refused(('row', 1))
>>> laid(QUAD, CUBIC, 3)
raises InvalidNumber(3)
""", {**vars(layings), **NAMES})

    def test_places(self):
        for call in (laid, run_rows, pair_table, table_parts, table_of_parts):
            self.assertEqual(call.__module__, "sourceforms.form.layings")


if __name__ == "__main__":
    unittest.main()
