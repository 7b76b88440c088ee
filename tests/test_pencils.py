import unittest
from fractions import Fraction
from itertools import product

from sourceforms import errors
from sourceforms.errors import InvalidForm, InvalidOperation, InvalidPoint
from sourceforms.form.forms import Form, factor_between, line_of
from sourceforms.form.layings import laid
from sourceforms.pencil import pencils as module
from sourceforms.pencil.pencils import are_one_pencil, double_member, is_pencil_row, pencil_basis, pencil_of_square, pencil_row
from sourceforms.pencil.pencils import pencils_of
from sourceforms.root.common import common_form
from tests.support import BENT, CUBIC, FOUR, LET, NO_FORMS, NO_PAPERS, QUAD, SIX, Case, determinant_of, picker, product_of, rank_of
from tests.support import some_change, some_form, some_point, whole_form
from tests.test_forms import NO_POINTS
from tests.test_layings import reckoned_laying
from tests.test_tables import reckoned_echelon

NAMES = {**vars(errors), **vars(module), "Form": Form, "QUAD": QUAD, "CUBIC": CUBIC, "FOUR": FOUR, "SIX": SIX, "BENT": BENT}
ENDS = (Form((1, 0, 0, 0)), Form((0, 0, 0, 1)))
MIDDLE = (Form((0, 1, 0, 0)), Form((0, 0, 1, 0)))
NO_PAIRS = (
    (QUAD, CUBIC), (QUAD, QUAD), (QUAD, QUAD * -3), (QUAD, Form((0, 0, 0))), (Form((0, 0, 0)), QUAD), (Form((0, 0)), Form((0, 0))),
    (Form((1,)), Form((2,))), (Form((4, 6)), Form((6, 9))), (Form((1,) + (0,) * 22), Form((0,) * 22 + (1,))),
    (Form((1,) + (0,) * 40), Form((0,) * 40 + (1,))), (Form((1,) * 22), Form((1,) * 23)))


def some_pairs(seed, many, most_degree=7):
    """Pairs that span pencils: drawn ones, with common roots, with repeated roots, of powers."""
    pick = picker(seed)
    found = [ENDS, MIDDLE, (Form((1, 0)), Form((0, 1))), (QUAD, Form((0, 1, 0)))]
    while len(found) < many:
        m = pick.randint(1, most_degree)
        kind = pick.randint(0, 3)
        if kind == 0:
            pair = (some_form(pick, m, pick.choice((1, 9, LET))), some_form(pick, m, 3))
        elif kind == 1:
            part = some_form(pick, pick.randint(0, m - 1), 2)
            pair = (part * some_form(pick, m - part.degree, 3), part * some_form(pick, m - part.degree, 3))
        elif kind == 2:
            line = line_of(some_point(pick))
            part = product_of([line] * min(2, m - 1))
            pair = (part * some_form(pick, m - part.degree, 3), part * some_form(pick, m - part.degree, 3))
        else:
            pair = (Form.power(some_point(pick), m), Form.power(some_point(pick), m))
        if rank_of([form.entries for form in pair]) == 2:
            found.append(pair)
    return found


def mixed(pair, table):
    """Two other members of a pencil."""
    (a, b), (c, d) = table
    return (pair[0] * a + pair[1] * b, pair[0] * c + pair[1] * d)


class Rows(Case, unittest.TestCase):
    def test_layings(self):
        for one, other in some_pairs(911, 60):
            wanted = [reckoned_laying(one.entries, other.entries, k) for k in range(1, one.degree + 1, 2)]
            self.assertEqual([form.entries for form in pencil_row(one, other)], wanted)
            self.assertFalse(pencil_row(one, other)[0].is_zero)

    def test_other_members(self):
        pick = picker(912)
        for pair in some_pairs(913, 50):
            table = some_change(pick, 3)
            row, other = pencil_row(*pair), pencil_row(*mixed(pair, table))
            self.assertEqual(other, tuple(form * determinant_of(table) for form in row))
            self.assertIs(is_pencil_row(*pair, other), True)
            self.assertIs(are_one_pencil(*pair, *mixed(pair, table)), True)
            self.assertEqual(pencil_basis(*pair), pencil_basis(*mixed(pair, table)))

    def test_judged(self):
        pick = picker(914)
        for pair in some_pairs(915, 50):
            row = pencil_row(*pair)
            for k in (1, -1, 6, LET, 10 ** 50):
                self.assertIs(is_pencil_row(*pair, tuple(form * k for form in row)), True)
            self.assertIs(is_pencil_row(*pair, tuple(form.primitive for form in row)), len(row) == 1 or self.one_ratio(row))
            self.assertIs(is_pencil_row(*pair, tuple(form * 0 for form in row)), False)
            self.assertIs(is_pencil_row(*pair, row[1:]), False)
            self.assertIs(is_pencil_row(*pair, row + row[-1:]), False)
            self.assertIs(is_pencil_row(*pair, list(row)), False)
            self.assertIs(is_pencil_row(*pair, tuple(form.entries for form in row)), False)
            if len(row) > 1:
                self.assertIs(is_pencil_row(*pair, row[::-1]), False)
                self.assertIs(is_pencil_row(*pair, row[:-1] + (row[-1] * 2,)), row[-1].is_zero)
            at = pick.randint(0, len(row) - 1)
            entries = list(row[at].entries)
            entries[pick.randint(0, len(entries) - 1)] += 1
            self.assertIs(is_pencil_row(*pair, row[:at] + (whole_form(entries),) + row[at + 1:]),
                          pair[0].degree == 1 and entries != [0])

    def one_ratio(self, row):
        """Whether all forms of a row have one ratio to their primitive forms; zero forms have any."""
        factors = {factor_between(form, form.primitive) for form in row if not form.is_zero}
        return len(factors) == 1

    def test_rows_tell_pencils(self):
        """Two pairs of one degree span one pencil exactly if their rows are multiples."""
        pairs = some_pairs(917, 60, 3)
        for one in pairs:
            for other in pairs:
                if one[0].degree == other[0].degree:
                    both = rank_of([form.entries for form in one + other]) == 2
                    self.assertIs(is_pencil_row(*one, pencil_row(*other)), both)
                    self.assertIs(are_one_pencil(*one, *other), both)
                else:
                    self.assertIs(are_one_pencil(*one, *other), False)

    def test_bases(self):
        for one, other in some_pairs(918, 60):
            basis = pencil_basis(one, other)
            self.assertEqual(tuple(form.entries for form in basis), reckoned_echelon([one.entries, other.entries]))

    def test_changed_forms(self):
        pick = picker(919)
        for one, other in some_pairs(920, 40, 5):
            table = some_change(pick, 3)
            t = determinant_of(table)
            changed = (one.changed(table), other.changed(table))
            wanted = tuple(form.changed(table) * t ** (2 * k + 1) for k, form in enumerate(pencil_row(one, other)))
            self.assertEqual(pencil_row(*changed), wanted)
            basis = [form.changed(table) for form in pencil_basis(one, other)]
            self.assertIs(are_one_pencil(*changed, *basis), True)

    def test_greatest(self):
        pick = picker(921)
        one, other = some_form(pick, 21, LET), some_form(pick, 21, LET)
        row = self.soon(3, pencil_row, one, other)
        self.assertEqual([form.degree for form in row], list(range(40, -1, -4)))
        self.assertIs(self.soon(3, is_pencil_row, one, other, row), True)
        self.assertIs(self.soon(3, are_one_pencil, one, other, other, one + other), True)
        small = some_form(pick, 8), some_form(pick, 8)
        self.soon(3, lambda: [is_pencil_row(*small, pencil_row(*small)) for _ in range(100)])

    def test_refuses(self):
        for call in (pencil_row, pencil_basis, lambda one, other: is_pencil_row(one, other, ())):
            for value in NO_FORMS:
                self.refuses(InvalidForm, {}, call, value, QUAD)
                self.refuses(InvalidForm, {}, call, value, None)
                self.refuses(InvalidForm, {}, call, Form((0,)), value)
            for one, other in NO_PAIRS:
                self.refuses(InvalidOperation, {}, call, one, other)
        for value in NO_FORMS:
            for at in range(4):
                given = [QUAD, QUAD, CUBIC, FOUR]
                given[at] = value
                self.refuses(InvalidForm, {}, are_one_pencil, *given)
                self.refuses(InvalidForm, {}, are_one_pencil, *(given[:at] + [value] * (4 - at)))
        for one, other in NO_PAIRS:
            self.refuses(InvalidOperation, {}, are_one_pencil, one, other, *ENDS)
            self.refuses(InvalidOperation, {}, are_one_pencil, *ENDS, one, other)
        for value in NO_PAPERS + ((QUAD,), (QUAD, CUBIC), ENDS):
            self.assertIs(is_pencil_row(*ENDS, value), False)


class Doubles(Case, unittest.TestCase):
    def check(self, pair, point):
        found = double_member(*pair, point)
        m = pair[0].degree
        slopes = [[form.derived(1, 0), form.derived(0, 1)] for form in pair]
        values = [[self.at(part, point) for part in both] for both in slopes]
        rank = rank_of(values)
        if rank == 2:
            self.assertIsNone(found)
        else:
            self.assertTrue(not found.is_zero and found == found.primitive)
            self.assertEqual(rank_of([form.entries for form in pair + (found,)]), 2)
            self.assertGreaterEqual(found.times_at(point), 2)
        if rank == 0:
            self.assertEqual(found, pencil_basis(*pair)[0])
        if m > 1:
            self.assertEqual(found is None, self.at(laid(*pair, 1), point) != 0)
        return rank

    def at(self, form, point):
        return sum(entry * point[0] ** (form.degree - k) * point[1] ** k for k, entry in enumerate(form))

    def test_members(self):
        pick = picker(922)
        ranks = {0: 0, 1: 0, 2: 0}
        for pair in some_pairs(923, 120):
            for point in ((1, 0), (0, 1), some_point(pick), some_point(pick, 2)):
                ranks[self.check(pair, point)] += 1
        for _ in range(60):
            point, m = some_point(pick), pick.randint(2, 8)
            twice = line_of(point) * line_of(point)
            pair = (twice * some_form(pick, m - 2, 3), some_form(pick, m, 3))
            table = some_change(pick)
            if rank_of([form.entries for form in pair]) == 2:
                ranks[self.check(mixed(pair, table), point)] += 1
                if pair[1].value(*point):
                    self.assertEqual(double_member(*mixed(pair, table), point), pair[0].primitive)
            pair = (twice * some_form(pick, m - 2, 3), twice * some_form(pick, m - 2, 3))
            if rank_of([form.entries for form in pair]) == 2:
                self.assertEqual(self.check(pair, point), 0)
                ranks[0] += 1
        self.assertGreater(min(ranks.values()), 30)

    def test_degree_1(self):
        for point in ((1, 0), (0, 1), (3, -2)):
            self.assertIsNone(double_member(Form((1, 2)), Form((3, 4)), point))

    def test_greatest(self):
        pick = picker(924)
        one, other = some_form(pick, 21, LET), some_form(pick, 21, LET)
        self.assertIsNone(self.soon(3, double_member, one, other, (LET, LET - 1)))
        line = line_of((LET, LET - 1))
        twice = line * line * some_form(pick, 19, LET)
        self.assertEqual(self.soon(3, double_member, one + twice, one, (LET, LET - 1)), twice.primitive)

    def test_refuses(self):
        for value in NO_FORMS:
            self.refuses(InvalidForm, {}, double_member, value, QUAD, None)
            self.refuses(InvalidForm, {}, double_member, QUAD, value, None)
        for value in NO_POINTS:
            self.refuses(InvalidPoint, {}, double_member, *ENDS, value)
            self.refuses(InvalidPoint, {}, double_member, QUAD, CUBIC, value)
        for one, other in NO_PAIRS:
            self.refuses(InvalidOperation, {}, double_member, one, other, (1, 0))


class Squares(Case, unittest.TestCase):
    def test_all_small_forms(self):
        for row in product(range(-3, 4), repeat=3):
            if any(row):
                form = Form(row)
                basis = pencil_of_square(form)
                self.assertEqual(basis, pencil_basis(*basis))
                self.assertIsNotNone(factor_between(form, laid(*basis, 1)))
                self.assertEqual([laid(part, form, 2).is_zero for part in basis], [True, True])

    def test_each_pencil(self):
        """Each pencil of forms of the degree 2 comes of its first laying."""
        pick = picker(925)
        for _ in range(60):
            pair = (some_form(pick, 2, pick.choice((3, LET))), some_form(pick, 2))
            if rank_of([form.entries for form in pair]) == 2:
                self.assertEqual(pencil_of_square(laid(*pair, 1)), pencil_basis(*pair))

    def test_refuses(self):
        for call, degree in ((pencil_of_square, 2), (pencils_of, 4)):
            for value in NO_FORMS:
                self.refuses(InvalidForm, {}, call, value)
            for n in (0, 1, 2, 3, 4, 5, 40):
                self.refuses(InvalidOperation, {}, call, Form((0,) * (n + 1)))
                if n != degree:
                    self.refuses(InvalidOperation, {}, call, Form((1,) * (n + 1)))


class Fours(Case, unittest.TestCase):
    def check(self, form):
        found = pencils_of(form)
        square = Fraction(reckoned_laying(form.entries, form.entries, 4)[0], 6)
        root = 0
        while Fraction(root * root) < square:
            root += 1
        many = 1 if square == 0 else 2 if root * root == square else 0
        self.assertEqual(len(found), many)
        self.assertEqual(list(found), sorted(found, key=lambda basis: [part.entries for part in basis]))
        numbers = set()
        for basis in found:
            self.assertEqual(basis, pencil_basis(*basis))
            first, last = pencil_row(*basis)
            factor = Fraction(*factor_between(first, form))
            numbers.add(last.entries[0] * factor)
        self.assertEqual(numbers, {root, -root} if many else set())
        return many

    def test_small_forms(self):
        counts = {0: 0, 1: 0, 2: 0}
        for row in product((-2, -1, 0, 1, 3), repeat=5):
            if any(row) and sum(row) % 3 == 0:
                counts[self.check(Form(row))] += 1
        self.assertGreater(min(counts.values()), 20)

    def test_each_pencil(self):
        """Each pencil of forms of the degree 3 is among those of its first laying."""
        pick = picker(926)
        for _ in range(80):
            pair = (some_form(pick, 3, pick.choice((2, 9, LET))), some_form(pick, 3, 3))
            if rank_of([form.entries for form in pair]) == 2:
                found = pencils_of(laid(*pair, 1))
                self.assertIn(pencil_basis(*pair), found)
                third = pencil_row(*pair)[1]
                self.assertEqual(len(found), 1 if third.is_zero else 2)

    def test_changed_forms(self):
        pick = picker(927)
        for form in (FOUR, Form((0, 0, 1, 0, 0)), laid(*ENDS, 1), laid(CUBIC, BENT, 1)):
            table = some_change(pick, 3)
            wanted = {tuple(part.entries for part in pencil_basis(*[one.changed(table) for one in basis])) for basis in pencils_of(form)}
            self.assertEqual({tuple(part.entries for part in basis) for basis in pencils_of(form.changed(table))}, wanted)

    def test_greatest(self):
        form = some_form(picker(928), 4, LET)
        self.assertEqual(self.soon(2, pencils_of, form), ())
        pair = (some_form(picker(929), 3, LET), some_form(picker(930), 3, LET))
        self.assertIn(pencil_basis(*pair), self.soon(2, pencils_of, laid(*pair, 1)))
        self.soon(3, lambda: [pencils_of(laid(*ENDS, 1)) for _ in range(100)])


class Statements(Case, unittest.TestCase):
    def test_what_is_not_true(self):
        self.assertIsNotNone(factor_between(laid(*ENDS, 1), laid(*MIDDLE, 1)))
        self.assertIs(are_one_pencil(*ENDS, *MIDDLE), False)
        self.assertEqual(pencils_of(Form((1, 0, 0, 0, 1))), ())
        self.assertEqual((common_form(*ENDS).degree, common_form(*MIDDLE).degree), (0, 2))


class Examples(Case, unittest.TestCase):
    def test_document(self):
        self.run_examples("""
>>> ENDS, MIDDLE = (Form((1, 0, 0, 0)), Form((0, 0, 0, 1))), (Form((0, 1, 0, 0)), Form((0, 0, 1, 0)))
>>> [[form.entries for form in pencil_row(*pair)] for pair in (ENDS, MIDDLE)]
[[(0, 0, 9, 0, 0), (36,)], [(0, 0, 3, 0, 0), (-12,)]]
>>> [[form.entries for form in basis] for basis in pencils_of(Form((0, 0, 1, 0, 0)))]
[[(0, 1, 0, 0), (0, 0, 1, 0)], [(1, 0, 0, 0), (0, 0, 0, 1)]]
>>> [[form.entries for form in basis] for basis in pencils_of(FOUR)], pencils_of(Form((1, 0, 0, 0, 1)))
([[(2, 0, 0, -1), (0, 1, 0, 0)]], ())
>>> [form.entries for form in pencil_of_square(QUAD)], [form.entries for form in pencil_basis(QUAD, Form((2, 2, -4)))]
([(1, 0, 2), (0, 1, 0)], [(1, 0, -2), (0, 1, 0)])
>>> [are_one_pencil(*ENDS, Form((1, 0, 0, 1)), Form((1, 0, 0, -1))), are_one_pencil(*ENDS, *MIDDLE), double_member(*ENDS, (1, 0)).entries, double_member(*ENDS, (1, 1))]
[True, False, (0, 0, 0, 1), None]
>>> pencil_row(QUAD, Form((-2, 0, 4)))
raises InvalidOperation
""", NAMES)

    def test_places(self):
        for call in (pencil_row, is_pencil_row, pencil_basis, are_one_pencil, double_member, pencil_of_square, pencils_of):
            self.assertEqual(call.__module__, "sourceforms.pencil.pencils")


if __name__ == "__main__":
    unittest.main()
