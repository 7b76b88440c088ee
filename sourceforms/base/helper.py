"""What several modules need: judging values that are passed, and rows of integers of any length."""

from math import gcd

from sourceforms.base.ratios import is_integer
from sourceforms.errors import InvalidNumber


def is_within(value, low, high):
    """Whether the value is an integer from low to high."""
    return is_integer(value) and low <= value <= high


def need_number(value, low, high):
    """Refuse what is no integer from low to high."""
    if not is_within(value, low, high):
        raise InvalidNumber(value)


def is_whole(value):
    """Whether the value is an integer of any length."""
    return isinstance(value, int) and not isinstance(value, bool)


def is_whole_change(value):
    """Whether the value is a change, with integers of any length."""
    if not isinstance(value, tuple) or len(value) != 2:
        return False
    if not all([isinstance(row, tuple) and len(row) == 2 for row in value]):
        return False
    return all([is_whole(number) for row in value for number in row])


def is_same(value, wanted):
    """Whether a judged value is the wanted one, made of tuples, strings and integers; True is no integer."""
    if isinstance(wanted, tuple):
        if not isinstance(value, tuple) or len(value) != len(wanted):
            return False
        return all([is_same(part, other) for part, other in zip(value, wanted)])
    if isinstance(wanted, int):
        return is_whole(value) and value == wanted
    return isinstance(value, str) and value == wanted


def is_row(value):
    """Whether the value is a tuple of integers."""
    return isinstance(value, tuple) and all([is_integer(part) for part in value])


def is_pair(value):
    """Whether the value is a pair of integers."""
    return is_row(value) and len(value) == 2


def is_point(value):
    """Whether the value is a pair without a common divisor, its first integer other than 0 being above 0."""
    return is_pair(value) and is_whole_point(value)


def is_whole_pair(value):
    """Whether the value is a pair of integers of any length."""
    return isinstance(value, tuple) and len(value) == 2 and is_whole(value[0]) and is_whole(value[1])


def is_whole_point(value):
    """Whether the value is a point, with integers of any length."""
    return is_whole_pair(value) and gcd(value[0], value[1]) == 1 and value > (0, 0)


def is_whole_ratio(value):
    """Whether the value is a ratio, with integers of any length."""
    return is_whole_pair(value) and value[1] > 0 and gcd(value[0], value[1]) == 1


def point_of(first, second):
    """The point whose multiple a pair of integers of any length, not both 0, is."""
    return primitive_row((first, second))


def is_change(value):
    """Whether the value is a pair of pairs of integers."""
    return isinstance(value, tuple) and len(value) == 2 and all([is_pair(row) for row in value])


def lead_of(row):
    """The index of the first integer of a row that is not 0, or None."""
    for index, number in enumerate(row):
        if number != 0:
            return index
    return None


def content_of(row):
    """The greatest common divisor of a row, 0 for zeros."""
    found = 0
    for number in row:
        found = gcd(found, number)
    return found


def primitive_row(row):
    """The row, divided by its content, its first integer other than 0 being above 0; zeros stay."""
    lead = lead_of(row)
    if lead is None:
        return tuple(row)
    content = content_of(row)
    if row[lead] < 0:
        content = -content
    return tuple([number // content for number in row])


def sign_of(number):
    """-1, 0 or 1."""
    if number < 0:
        return -1
    if number > 0:
        return 1
    return 0


def powers_of(number, most):
    """The powers of an integer with the exponents from 0 to most, in a list."""
    found = [1]
    for _ in range(most):
        found.append(found[-1] * number)
    return found
