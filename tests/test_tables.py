import unittest
from fractions import Fraction
from itertools import permutations, product
from math import gcd, lcm, prod

from sourceforms import errors
from sourceforms.base import tables
from sourceforms.base.tables import determinant, echelon, is_table, kernel, rank, signature, table_product
from sourceforms.errors import InvalidOperation, InvalidTable
from tests.support import LET, LONG, NO_TUPLES, QUAD, Case, matrix_product, picker

NO_TABLES = NO_TUPLES + (
    (), ((),), ((), ()), (1, 2), ((1, 2), (3,)), ((1,), (2, 3)), ([1, 2], (3, 4)), ((1, 2), [3, 4]), [(1, 2), (3, 4)],
    ((True,),), ((1, 2), (3, False)), ((None,),), (("1",),), ((LONG,),), ((0, -LONG),), (((1,),),), ((1, 2), 3),
    ((1,),) * 25, ((1,) * 25,), ((0,) * 25,) * 25, ((QUAD,),), ((1, 2), QUAD),
)


def some_rows(pick, rows, columns, most=4):
    return tuple(tuple(pick.randint(-most, most) for _ in range(columns)) for _ in range(rows))


def some_symmetric(pick, size, most=4):
    rows = some_rows(pick, size, size, most)
    return tuple(tuple(rows[min(i, j)][max(i, j)] for j in range(size)) for i in range(size))


def unit(size):
    return tuple(tuple(int(i == j) for j in range(size)) for i in range(size))


def turned(table):
    return tuple(zip(*table))


def whole_row(row):
    """A row of fractions as integers without a common divisor, the first other than 0 above 0."""
    numbers = [int(number * lcm(*[part.denominator for part in row])) for number in row]
    divisor = gcd(*numbers)
    first = next(number for number in numbers if number)
    return tuple(number // divisor if first > 0 else -number // divisor for number in numbers)


def reckoned_echelon(rows):
    """The echelon, by fractions."""
    left = [[Fraction(number) for number in row] for row in rows]
    done = 0
    for column in range(len(left[0]) if left else 0):
        found = [row for row in left[done:] if row[column]]
        if not found:
            continue
        base = [number / found[0][column] for number in found[0]]
        left.remove(found[0])
        left = [[a - row[column] * b for a, b in zip(row, base)] for row in left]
        left.insert(done, base)
        done += 1
    return tuple(whole_row(row) for row in left[:done])


def reckoned_kernel(table):
    """The echelon of what the reduced rows leave free."""
    base = reckoned_echelon(table)
    width = len(table[0])
    leads = [next(k for k in range(width) if row[k]) for row in base]
    found = []
    for free in range(width):
        if free not in leads:
            row = [Fraction(0)] * width
            row[free] = Fraction(1)
            for part, lead in zip(base, leads):
                row[lead] = Fraction(-part[free], part[lead])
            found.append(row)
    return reckoned_echelon(found)


def reckoned_determinant(table):
    size = len(table)
    total = 0
    for order in permutations(range(size)):
        turns = sum(order[i] > order[j] for i in range(size) for j in range(i + 1, size))
        total += (-1) ** turns * prod(table[i][order[i]] for i in range(size))
    return total


def some_tables(seed, many, most_side=5, most=4):
    pick = picker(seed)
    return [some_rows(pick, pick.randint(1, most_side), pick.randint(1, most_side), most) for _ in range(many)]


class Judging(Case, unittest.TestCase):
    def test_constant(self):
        self.assertEqual(tables.MAX_SIDE, 24)

    def test_tables(self):
        for value in (((0,),), ((LET,),), ((-LET, 1),), ((1,), (2,)), ((0,) * 24,) * 24, ((1,),) * 24, ((1,) * 24,)):
            self.assertIs(is_table(value), True)
        for value in NO_TABLES:
            self.assertIs(is_table(value), False, value)

    def test_no_tables_are_refused(self):
        for value in NO_TABLES:
            for call in (rank, kernel, determinant, signature):
                self.refuses(InvalidTable, {}, call, value)
            self.refuses(InvalidTable, {}, table_product, value, ((1, 2), (3, 4)))
            self.refuses(InvalidTable, {}, table_product, ((1, 2), (3, 4)), value)
            self.refuses(InvalidTable, {}, table_product, ((1, 2, 3),), value)
            self.refuses(InvalidTable, {}, table_product, value, value)


class Products(Case, unittest.TestCase):
    def test_products(self):
        for one in some_tables(31, 25):
            for other in some_tables(32, 25):
                if len(one[0]) == len(other):
                    self.assertEqual(table_product(one, other), matrix_product(one, other))
                else:
                    self.refuses(InvalidOperation, {}, table_product, one, other)

    def test_edges(self):
        self.assertEqual(table_product(((LET,),), ((LET,),)), ((LET * LET,),))
        self.assertEqual(table_product(((1,),) * 24, ((1,) * 24,)), ((1,) * 24,) * 24)
        self.assertEqual(table_product(((1,) * 24,), ((1,),) * 24), ((24,),))
        self.refuses(InvalidOperation, {}, table_product, ((1, 2),), ((1, 2),))


class Kernels(Case, unittest.TestCase):
    def test_many(self):
        rows = some_tables(33, 300) + some_tables(34, 100, 4, 1) + some_tables(35, 30, 6, 10 ** 12) + some_tables(36, 8, 4, LET)
        for table in rows:
            base = reckoned_echelon(table)
            self.assertEqual(echelon(table), base)
            self.assertEqual(rank(table), len(base))
            self.assertEqual(rank(turned(table)), len(base))
            self.assertEqual(kernel(table), reckoned_kernel(table))

    def test_products_with_few_columns_between(self):
        pick = picker(37)
        for _ in range(60):
            between = pick.randint(1, 3)
            table = matrix_product(some_rows(pick, 5, between), some_rows(pick, between, 6))
            self.assertLessEqual(rank(table), between)
            self.assertEqual(kernel(table), reckoned_kernel(table))

    def test_what_a_kernel_is(self):
        for table in some_tables(38, 200, 7, 2):
            rows = kernel(table)
            self.assertEqual(rank(table) + len(rows), len(table[0]))
            leads = []
            for row in rows:
                self.assertTrue(all(sum(a * b for a, b in zip(row, line)) == 0 for line in table))
                self.assertEqual(gcd(*row), 1)
                leads.append(next(k for k in range(len(row)) if row[k]))
                self.assertGreater(row[leads[-1]], 0)
            self.assertEqual(leads, sorted(set(leads)))
            for lead in leads:
                self.assertEqual(sum(row[lead] != 0 for row in rows), 1)

    def test_edges(self):
        self.assertEqual(kernel(((0,),)), ((1,),))
        self.assertEqual(kernel(((5,),)), ())
        self.assertEqual(kernel(((0,) * 24,) * 24), unit(24))
        self.assertEqual((kernel(unit(24)), rank(unit(24)), rank(((0,) * 3,) * 2)), ((), 24, 0))
        self.assertEqual(kernel(((1,),) * 24), ())
        self.assertEqual(len(kernel(((1,) * 24,))), 23)
        self.assertEqual(kernel(((1,) * 24,))[0], (1,) + (0,) * 22 + (-1,))
        self.assertEqual(kernel(((LET, 1),)), ((1, -LET),))
        self.assertEqual((echelon(()), echelon(((0, 0),)), echelon(((0, -2), (3, 5)))), ((), (), ((1, 0), (0, 1))))

    def test_twenty_four_rows(self):
        pick = picker(39)
        table = some_rows(pick, 24, 24, LET)
        self.assertEqual((rank(table), kernel(table)), (24, ()))
        row, = kernel(table[:23])
        self.assertTrue(all(sum(a * b for a, b in zip(row, line)) == 0 for line in table[:23]))
        self.assertEqual(gcd(*row), 1)


class Determinants(Case, unittest.TestCase):
    def test_many(self):
        pick = picker(40)
        for size in range(1, 6):
            for most in (1, 1, 2, 5, 10 ** 12, LET):
                for _ in range(12):
                    table = some_rows(pick, size, size, most)
                    self.assertEqual(determinant(table), reckoned_determinant(table))

    def test_all_small_ones(self):
        for a, b, c, d in product(range(-2, 3), repeat=4):
            self.assertEqual(determinant(((a, b), (c, d))), a * d - b * c)

    def test_orders_of_rows(self):
        for order in permutations(range(4)):
            table = tuple(unit(4)[k] for k in order)
            self.assertEqual(determinant(table), reckoned_determinant(table))

    def test_products_and_kernels(self):
        pick = picker(41)
        for _ in range(60):
            size = pick.randint(1, 7)
            one, other = some_rows(pick, size, size, 2), some_rows(pick, size, size, 2)
            self.assertEqual(determinant(table_product(one, other)), determinant(one) * determinant(other))
            self.assertEqual(determinant(one) == 0, kernel(one) != ())

    def test_twenty_four(self):
        pick = picker(42)
        low = tuple(tuple(pick.randint(-9, 9) if j < i else int(i == j) for j in range(24)) for i in range(24))
        high = tuple(tuple(pick.randint(-9, 9) if j > i else (i + 1) * (i == j) for j in range(24)) for i in range(24))
        self.assertEqual(determinant(matrix_product(low, high)), prod(range(1, 25)))
        self.assertEqual(determinant(((0,) * 24,) * 24), 0)
        self.assertEqual(determinant(tuple(unit(24)[1:] + unit(24)[:1])), -1)

    def test_not_square(self):
        for table in (((1, 2),), ((1,), (2,)), ((0, 0, 0), (0, 0, 0)), ((1,) * 24,)):
            self.refuses(InvalidOperation, {}, determinant, table)


class Signatures(Case, unittest.TestCase):
    def signed(self, row):
        size = len(row)
        return tuple(tuple(row[i] * (i == j) for j in range(size)) for i in range(size))

    def test_diagonals(self):
        for size in range(1, 5):
            for row in product((-3, 0, 2), repeat=size):
                self.assertEqual(signature(self.signed(row)), sum((part > 0) - (part < 0) for part in row))

    def test_changed_diagonals(self):
        pick = picker(43)
        for _ in range(300):
            size = pick.randint(1, 6)
            row = [pick.choice((-5, -1, 0, 1, 7)) for _ in range(size)]
            other = some_rows(pick, size, size, 2)
            if reckoned_determinant(other):
                table = matrix_product(matrix_product(turned(other), self.signed(row)), other)
                self.assertEqual(signature(table), sum((part > 0) - (part < 0) for part in row))

    def test_by_characters(self):
        """The signs of the roots of the polynomial of the determinant, all of which are real, by its changes of sign."""
        pick = picker(44)
        for _ in range(200):
            table = some_symmetric(pick, pick.randint(1, 4), 2)
            self.assertEqual(signature(table), signature_by_roots(table), table)

    def test_zero_diagonals(self):
        for a, b, c in product(range(-2, 3), repeat=3):
            table = ((0, a, b), (a, 0, c), (b, c, 0))
            self.assertEqual(signature(table), signature_by_roots(table))
        self.assertEqual(signature(((0, -5), (-5, 0))), 0)
        self.assertEqual(signature(((0, 1, 1), (1, 0, 1), (1, 1, 0))), -1)

    def test_rules(self):
        pick = picker(45)
        for _ in range(200):
            size = pick.randint(1, 5)
            table, other = some_symmetric(pick, size, 1), some_rows(pick, size, size, 2)
            self.assertEqual((signature(table) - rank(table)) % 2, 0)
            self.assertLessEqual(abs(signature(table)), rank(table))
            if determinant(other):
                moved = table_product(table_product(turned(other), table), other)
                self.assertEqual(signature(moved), signature(table))

    def test_edges(self):
        self.assertEqual(signature(((0,) * 24,) * 24), 0)
        self.assertEqual(signature(unit(24)), 24)
        self.assertEqual(signature(((-LET,),)), -1)
        self.assertEqual(signature(tuple(unit(24)[::-1])), 0)
        self.assertEqual(signature(((LET, LET), (LET, LET))), 1)
        self.assertEqual(signature(((LET, LET), (LET, LET - 1))), 0)

    def test_not_symmetric(self):
        for table in (((1, 2),), ((1,), (2,)), ((1, 2), (3, 4)), ((0, 1), (-1, 0)), ((1, 2, 3), (2, 1, 4), (3, 5, 1)),
                      ((1, 2, 3), (2, 1, 4))):
            self.refuses(InvalidOperation, {}, signature, table)


def signature_by_roots(table):
    """By the rule of signs, which is exact where all roots are real."""
    size = len(table)
    points = []
    for t in range(size + 1):
        points.append(reckoned_determinant(tuple(
            tuple(t * (i == j) - table[i][j] for j in range(size)) for i in range(size))))
    row = coefficients(points)

    def changes(numbers):
        signs = [number > 0 for number in numbers if number]
        return sum(a != b for a, b in zip(signs, signs[1:]))
    return changes(row) - changes([number * (-1) ** k for k, number in enumerate(row)])


def coefficients(points):
    """The polynomial through (t, points[t]), the constant first."""
    total = [Fraction(0)] * len(points)
    for at, worth in enumerate(points):
        part = [Fraction(worth)]
        for other in range(len(points)):
            if other != at:
                part = [(a - other * b) / (at - other) for a, b in zip([0] + part, part + [0])]
        total = [a + b for a, b in zip(total, part + [0] * len(points))]
    return total


class WhatIsNotTrue(Case, unittest.TestCase):
    def test_statements(self):
        one, other = kernel(((1, 1, 1),))
        self.assertNotEqual(sum(a * b for a, b in zip(one, other)), 0)
        self.assertEqual((determinant(((-1, 0), (0, -1))), signature(((-1, 0), (0, -1)))), (1, -2))
        first, second = ((1, 0), (0, 0)), ((0, 1), (1, 0))
        self.assertNotEqual(kernel(table_product(first, second)), kernel(second))
        self.assertEqual((signature(unit(2)), signature(((-1, 0), (0, -1)))), (2, -2))


class Examples(Case, unittest.TestCase):
    def test_document(self):
        self.run_examples("""
>>> SOME = ((1, 2, 3), (4, 5, 6), (7, 8, 9))
>>> [rank(SOME), kernel(SOME), determinant(SOME), kernel(((2, 4, 0),)), kernel(((1, 0), (0, 1))), kernel(((0, 0),))]
[2, ((1, -2, 1),), 0, ((2, -1, 0), (0, 0, 1)), (), ((1, 0), (0, 1))]
>>> [signature(((2, 1), (1, 2))), signature(((0, 1), (1, 0))), signature(((-1, 0, 0), (0, 0, 0), (0, 0, -3))), table_product(((1, 2), (3, 4)), ((0, 1), (1, 0)))]
[2, 0, -2, ((2, 1), (4, 3))]
>>> signature(((1, 2), (3, 4)))
raises InvalidOperation
""", {**vars(errors), **vars(tables)})

    def test_places(self):
        for call in (is_table, table_product, rank, kernel, determinant, signature):
            self.assertEqual(call.__module__, "sourceforms.base.tables")


if __name__ == "__main__":
    unittest.main()
