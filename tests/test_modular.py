import unittest

from sourceforms.base import modular as module
from sourceforms.base.helper import primitive_row
from sourceforms.base.modular import EXPONENTS, bottom_of, common_by, echelon_by, folded, inverse_by, kernel_by, kernel_long, short_row
from sourceforms.base.tables import kernel_rows
from sourceforms.form.divisors import common_by_primes, common_by_rests, common_polynomial
from sourceforms.form.forms import product_row
from tests.support import Case, picker, rank_of


def some_row(pick, many, most):
    return tuple(pick.randint(-most, most) for _ in range(many))


class Numbers(Case, unittest.TestCase):
    def test_exponents(self):
        """By the test of Lucas and Lehmer, for those that are not too long."""
        self.assertEqual(list(EXPONENTS), sorted(EXPONENTS))
        for exponent in EXPONENTS:
            if exponent < 5000:
                prime, left = 2 ** exponent - 1, 4
                for _ in range(exponent - 2):
                    left = (left * left - 2) % prime
                self.assertEqual(left, 0, exponent)

    def test_folded(self):
        pick = picker(991)
        for exponent in EXPONENTS[:3]:
            prime = 2 ** exponent - 1
            numbers = [0, 1, -1, prime, -prime, 2 * prime, prime - 1, prime + 1, prime * prime, -prime * prime - 1, 10 ** 2000, -10 ** 2000]
            for number in numbers + [pick.randint(-prime ** 3, prime ** 3) for _ in range(50)]:
                self.assertEqual(folded(number, exponent), number % prime)

    def test_inverses(self):
        pick = picker(992)
        for exponent in EXPONENTS[:3]:
            prime = 2 ** exponent - 1
            for number in [1, 2, prime - 1] + [pick.randint(1, prime - 1) for _ in range(20)]:
                inverse = inverse_by(number, exponent)
                self.assertEqual((number * inverse % prime, 0 < inverse < prime), (1, True))

    def test_short_rows(self):
        pick = picker(993)
        for exponent in EXPONENTS[:2]:
            prime = 2 ** exponent - 1
            for _ in range(60):
                row = primitive_row(some_row(pick, pick.randint(1, 6), 10 ** pick.choice((1, 20, 60))))
                factor = pick.randint(1, prime - 1)
                if row[0]:
                    factor = pow(row[0], -1, prime)
                self.assertEqual(short_row([number * factor % prime for number in row], exponent) if any(row) and row[0] else row, row)
            self.assertEqual(short_row([0, 0], exponent), (0, 0))
        self.assertEqual(bottom_of(pow(7, -1, 2 ** 521 - 1), 521, 100), 7)


class Kernels(Case, unittest.TestCase):
    def tables(self, seed, many):
        pick = picker(seed)
        for _ in range(many):
            rows, width, most = pick.randint(0, 6), pick.randint(1, 7), pick.choice((1, 5, 10 ** 30, 10 ** 300))
            table = [some_row(pick, width, most) for _ in range(rows)]
            if rows > 1 and pick.randint(0, 1):
                table[-1] = tuple(a * 3 - b for a, b in zip(table[0], table[rows // 2]))
            if rows and pick.randint(0, 2) == 0:
                table = [tuple(0 if k % 3 == 0 else part for k, part in enumerate(row)) for row in table]
            yield table, width

    def test_as_by_exact_steps(self):
        for table, width in self.tables(994, 150):
            wanted = kernel_rows(table, width)
            self.assertEqual(kernel_long(table, width), wanted)
            self.assertIn(kernel_by(table, width, 521), (None, wanted))
            self.assertEqual(kernel_by(table, width, 9689) if len(table) < 4 else wanted, wanted)
            if table:
                self.assertEqual(len(echelon_by(table, 521)), rank_of(table))

    def test_short_kernels_of_long_rows(self):
        pick = picker(995)
        for width in (5, 9, 14):
            wanted = kernel_rows([some_row(pick, width, 9) for _ in range(width - 2)], width)
            rows = kernel_rows(wanted, width)
            mixed = [tuple(sum(a * b for a, b in zip(factors, column)) for column in zip(*rows))
                     for factors in [some_row(pick, len(rows), 10 ** 400) for _ in range(len(rows) + 3)]]
            self.assertEqual(self.soon(3, kernel_long, mixed, width), wanted)

    def test_primes_that_divide(self):
        """Rows that a prime joins: the kernel modulo it is too great, and must not be taken."""
        prime = 2 ** 521 - 1
        for table in (((prime, 0), (0, 1)), ((1, 1), (1, 1 + prime)), ((prime, 2 * prime, 3 * prime),), ((1, 2, 3), (4, 5, 6), (7, 8, 9 + prime))):
            self.assertEqual(kernel_long(table, len(table[0])), kernel_rows(table, len(table[0])))
            self.assertIn(kernel_by(table, len(table[0]), 521), (None, kernel_rows(table, len(table[0]))))


class Divisors(Case, unittest.TestCase):
    def test_as_by_rests(self):
        pick = picker(996)
        for _ in range(150):
            most = 10 ** pick.choice((1, 5, 60))
            part = (pick.randint(1, most),) + some_row(pick, pick.randint(0, 5), most)
            one, other = (product_row(part, (pick.randint(1, 9),) + some_row(pick, pick.randint(0, 7), most)) for _ in range(2))
            wanted = common_by_rests(one, other)
            self.assertEqual(common_by_primes(primitive_row(one), primitive_row(other), 10 ** 5), wanted)
            self.assertEqual(common_polynomial(one, other), wanted)
            self.assertIn(common_by_primes(primitive_row(one), primitive_row(other), 521), (None, wanted))

    def test_primes_that_divide(self):
        prime = 2 ** 521 - 1
        self.assertIsNone(common_by((prime, 1), (1, 1), 521))
        self.assertEqual(common_by((1, 1), (prime, prime), 521), [1, 1])
        for one, other in (((prime, 1), (1, 1)), ((1, prime + 1), (1, 1)), ((1, 1), (prime, prime - 1)), ((1, 0, prime), (1, 0)), ((1, prime, 0), (1, 0))):
            self.assertEqual(common_by_primes(one, other, 10 ** 4), common_by_rests(one, other))

    def test_times(self):
        pick = picker(997)
        part = (1,) + some_row(pick, 20, 10 ** 100)
        one, other = (product_row(part, (1,) + some_row(pick, 20, 10 ** 100)) for _ in range(2))
        self.assertEqual(self.soon(2, common_polynomial, one, other), part)

    def test_places(self):
        for call in (folded, kernel_long, common_by):
            self.assertEqual(call.__module__, module.__name__)


if __name__ == "__main__":
    unittest.main()
