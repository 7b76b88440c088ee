"""Integers that may be passed, and ratios: pairs (top, bottom) in lowest terms."""

from math import gcd, isqrt

from sourceforms.errors import InvalidNumber, InvalidOperation, InvalidRatio

# The least positive integer that has more than sixty digits.
TOO_LONG = 10 ** 60


def is_integer(value):
    """Whether the value is an integer of at most sixty digits."""
    if not isinstance(value, int) or isinstance(value, bool):
        return False
    return -TOO_LONG < value < TOO_LONG


def is_ratio(value):
    """Whether the value is a ratio of two integers of at most sixty digits."""
    if not isinstance(value, tuple) or len(value) != 2:
        return False
    top, bottom = value
    if not is_integer(top) or not is_integer(bottom):
        return False
    return bottom > 0 and gcd(top, bottom) == 1


def need_ratio(value):
    """Refuse what is no ratio."""
    if not is_ratio(value):
        raise InvalidRatio("a pair (top, bottom) in lowest terms is wanted")


def reduced(top, bottom):
    """The ratio of two integers of any length; the bottom is not 0."""
    shared = gcd(top, bottom)
    if bottom < 0:
        shared = -shared
    return (top // shared, bottom // shared)


def lowest(top, bottom):
    """The ratio of two integers."""
    if not is_integer(top):
        raise InvalidNumber(top)
    if not is_integer(bottom) or bottom == 0:
        raise InvalidNumber(bottom)
    return reduced(top, bottom)


def plus(one, other):
    """The sum of two ratios."""
    need_ratio(one)
    need_ratio(other)
    return reduced(one[0] * other[1] + other[0] * one[1], one[1] * other[1])


def minus(one, other):
    """The first ratio less the second one."""
    need_ratio(one)
    need_ratio(other)
    return reduced(one[0] * other[1] - other[0] * one[1], one[1] * other[1])


def times(one, other):
    """The product of two ratios."""
    need_ratio(one)
    need_ratio(other)
    return reduced(one[0] * other[0], one[1] * other[1])


def over(one, other):
    """The first ratio, divided by the second one."""
    need_ratio(one)
    need_ratio(other)
    if other[0] == 0:
        raise InvalidOperation("nothing is divided by 0")
    return reduced(one[0] * other[1], one[1] * other[0])


def compare(one, other):
    """-1, 0 or 1 if the first ratio is less than, equal to or greater than the second one."""
    need_ratio(one)
    need_ratio(other)
    first, second = one[0] * other[1], other[0] * one[1]
    if first < second:
        return -1
    if first > second:
        return 1
    return 0


def root_of(ratio):
    """The ratio of at least 0 whose square is the ratio, or None."""
    need_ratio(ratio)
    top, bottom = ratio
    if top < 0:
        return None
    # In lowest terms a square has a square top and a square bottom.
    high, low = isqrt(top), isqrt(bottom)
    if high * high != top or low * low != bottom:
        return None
    return (high, low)


def ratio_text(ratio):
    """A text such as -3/2, or the top alone for the bottom 1."""
    need_ratio(ratio)
    top, bottom = ratio
    if bottom == 1:
        return str(top)
    return f"{top}/{bottom}"
