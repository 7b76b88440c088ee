import unittest
from fractions import Fraction
from math import gcd

from sourceforms.base import ratios
from sourceforms.base.ratios import compare, is_integer, is_ratio, lowest, minus, over, plus, ratio_text
from sourceforms.base.ratios import root_of, times
from sourceforms.errors import InvalidNumber, InvalidOperation, InvalidRatio
from tests.support import LET, LONG, NO_INTEGERS, NO_TUPLES, QUAD, Case, picker

NO_RATIOS = NO_TUPLES + (
    (), (1,), (1, 2, 3), (2, 4), (0, 2), (0, -1), (0, 0), (1, 0), (1, -2), (-2, -3), (3, 3), (True, 1), (1, True),
    (False, 1), (None, 1), (1, None), ("1", 2), (1, "2"), ((1, 2), 1), (LONG, 1), (1, LONG), (-LONG, 1), [1, 2],
)
TWO = (plus, minus, times, over, compare)


def told(number):
    return (number.numerator, number.denominator)


def some_ratios(seed, many, most):
    pick = picker(seed)
    return [told(Fraction(pick.randint(-most, most), pick.randint(1, most))) for _ in range(many)]


class Judging(Case, unittest.TestCase):
    def test_integers(self):
        for value in (0, 1, -1, 12, LET, -LET, 10 ** 59):
            self.assertIs(is_integer(value), True)
        for value in NO_INTEGERS + ((1, 2), LONG + 1):
            self.assertIs(is_integer(value), False, value)

    def test_ratios(self):
        for value in ((0, 1), (1, 1), (-1, 1), (3, 2), (-3, 2), (LET, LET - 1), (-LET, 2), (1, LET)):
            self.assertIs(is_ratio(value), True, value)
        for value in NO_RATIOS:
            self.assertIs(is_ratio(value), False, value)

    def test_all_small_pairs(self):
        for top in range(-12, 13):
            for bottom in range(-12, 13):
                right = bottom > 0 and gcd(top, bottom) == 1
                self.assertIs(is_ratio((top, bottom)), right)


class Reckoning(Case, unittest.TestCase):
    def test_lowest(self):
        self.assertEqual(lowest(0, -5), (0, 1))
        self.assertEqual(lowest(0, 7), (0, 1))
        self.assertEqual(lowest(-4, -6), (2, 3))
        self.assertEqual(lowest(LET, -LET), (-1, 1))
        for top in range(-20, 21):
            for bottom in range(-20, 21):
                if bottom:
                    self.assertEqual(lowest(top, bottom), told(Fraction(top, bottom)))

    def test_four_operations(self):
        rows = [(0, 1), (1, 1), (-1, 1), (LET, 1), (1, LET), (-LET, LET - 1)]
        rows += some_ratios(1, 30, 20) + some_ratios(2, 12, 10 ** 59)
        for one in rows:
            for other in rows:
                first, second = Fraction(*one), Fraction(*other)
                self.assertEqual(plus(one, other), told(first + second))
                self.assertEqual(minus(one, other), told(first - second))
                self.assertEqual(times(one, other), told(first * second))
                self.assertEqual(compare(one, other), (first > second) - (first < second))
                if second:
                    self.assertEqual(over(one, other), told(first / second))

    def test_longer_results(self):
        self.assertEqual(plus((1, LET), (1, LET - 1)), (2 * LET - 1, LET * (LET - 1)))
        self.assertEqual(times((LET, 1), (LET, 1)), (LET * LET, 1))

    def test_over_zero(self):
        for one in ((1, 2), (0, 1), (-5, 3)):
            self.refuses(InvalidOperation, {}, over, one, (0, 1))

    def test_root_of(self):
        for one in some_ratios(3, 60, 50) + some_ratios(4, 20, 10 ** 29):
            square = told(Fraction(*one) ** 2)
            self.assertEqual(root_of(square), (abs(one[0]), one[1]))
            self.assertIsNone(root_of((-square[0], square[1])) if square[0] else None)
        roots = {told(Fraction(a, b) ** 2): told(Fraction(a, b)) for a in range(8) for b in range(1, 8)}
        for top in range(-9, 50):
            for bottom in range(1, 50):
                if gcd(top, bottom) == 1:
                    self.assertEqual(root_of((top, bottom)), roots.get((top, bottom)))

    def test_root_of_long_ones(self):
        root = 10 ** 30 - 1
        self.assertEqual(root_of((root * root, 1)), (root, 1))
        self.assertIsNone(root_of((root * root - 1, 1)))
        self.assertIsNone(root_of((root * root + 1, 1)))
        self.assertEqual(root_of((1, root * root)), (1, root))
        self.assertIsNone(root_of((1, root * root - 2)))

    def test_texts(self):
        self.assertEqual(ratio_text((0, 1)), "0")
        self.assertEqual(ratio_text((-7, 1)), "-7")
        self.assertEqual(ratio_text((7, 12)), "7/12")
        self.assertEqual(ratio_text((-LET, 2)), "-" + "9" * 60 + "/2")


class Refusing(Case, unittest.TestCase):
    def test_no_ratios(self):
        for value in NO_RATIOS:
            for call in TWO:
                self.refuses(InvalidRatio, {}, call, value, (1, 2))
                self.refuses(InvalidRatio, {}, call, (1, 2), value)
                self.refuses(InvalidRatio, {}, call, value, (0, 1))
                self.refuses(InvalidRatio, {}, call, value, value)
            self.refuses(InvalidRatio, {}, root_of, value)
            self.refuses(InvalidRatio, {}, ratio_text, value)

    def test_lowest(self):
        for value in NO_INTEGERS:
            self.refuses(InvalidNumber, {"given": value}, lowest, value, 3)
            self.refuses(InvalidNumber, {"given": value}, lowest, 3, value)
            self.refuses(InvalidNumber, {"given": value}, lowest, value, 0)
            self.refuses(InvalidNumber, {"given": value}, lowest, value, "b")
        self.refuses(InvalidNumber, {"given": 0}, lowest, 3, 0)
        self.refuses(InvalidNumber, {"given": 0}, lowest, 0, 0)

    def test_other_values_are_judged_all_the_same(self):
        for value in (QUAD, [], {}, {"a": (1, [2])}, "text\n", ((((1,),),),)):
            self.assertIs(is_integer(value), False)
            self.assertIs(is_ratio(value), False)


class Examples(Case, unittest.TestCase):
    def test_document(self):
        self.run_examples("""
>>> [is_ratio((2, 4)), lowest(4, -6), plus((1, 2), (1, 3)), over((1, 2), (-1, 3)), compare((1, 3), (3, 8)), ratio_text((-3, 2)), ratio_text((5, 1))]
[False, (-2, 3), (5, 6), (-3, 2), -1, '-3/2', '5']
>>> [root_of((4, 9)), root_of((2, 1)), root_of((0, 1)), root_of((-4, 1)), is_integer(10 ** 60), is_ratio((0, 1)), is_ratio((1, True))]
[(2, 3), None, (0, 1), None, False, True, False]
>>> over((1, 2), (0, 1))
raises InvalidOperation
""", {**vars(ratios)})


if __name__ == "__main__":
    unittest.main()
