"""Layings of forms, row lists, and pair tables with their parts."""

from math import comb, factorial, gcd, lcm

from sourceforms.base.helper import content_of, is_row, need_number
from sourceforms.errors import InvalidOperation, InvalidRows, InvalidTable, Refused, TooMany
from sourceforms.form.forms import Form, MAX_DEGREE, derived_row, made_form, need_form, product_row, sum_row

MOST_ROWS = 24
MOST_SIZE = 24

# The greatest sum of the two degrees of a pair table that is taken apart or put together.
MOST_PAIRED = 12


def laid_row(one, other, times):
    """The entries of a laying of two rows of entries."""
    total = (0,) * (len(one) + len(other) - 2 * times - 1)
    for i in range(times + 1):
        first = derived_row(one, times - i, i)
        second = derived_row(other, i, times - i)
        sign = 1 if i % 2 == 0 else -1
        factor = sign * comb(times, i)
        total = sum_row(total, product_row([factor * entry for entry in first], second))
    return total


def laid(one, other, times):
    """The laying (one, other) times."""
    need_form(one)
    need_form(other)
    need_number(times, 0, min(one.degree, other.degree))
    if one.degree + other.degree - 2 * times > MAX_DEGREE:
        raise TooMany(MAX_DEGREE)
    return made_form(laid_row(one.entries, other.entries, times))


def is_row_list(value):
    """Whether the value is a row list."""
    if not isinstance(value, tuple) or len(value) > MOST_ROWS:
        return False
    sizes = [1]
    for place, triple in enumerate(value):
        if not is_row(triple) or len(triple) != 3:
            return False
        first, second, times = triple
        if not 0 <= first <= place or not 0 <= second <= place or times < 0:
            return False
        sizes.append(sizes[first] + sizes[second])
    return max(sizes) <= MOST_SIZE


def run_rows(rows, form):
    """The tuple of all forms that a row list tells with a form."""
    if not is_row_list(rows):
        raise InvalidRows("a tuple of at most 24 triples is wanted, with row sizes up to 24")
    need_form(form)
    found = [form]
    for place, (first, second, times) in enumerate(rows):
        one, other = found[first], found[second]
        if times > min(one.degree, other.degree):
            raise Refused(("row", place))
        if one.degree + other.degree - 2 * times > MAX_DEGREE:
            raise Refused(("row", place))
        found.append(made_form(laid_row(one.entries, other.entries, times)))
    return tuple(found)


def pair_table(one, other):
    """The pair table of two forms."""
    need_form(one)
    need_form(other)
    return tuple([tuple([first * second for second in other.entries]) for first in one.entries])


def is_pair_table(value):
    """Whether the value is a tuple of 1 to 13 tuples of integers, all of one length from 1 to 13."""
    if not isinstance(value, tuple) or not 1 <= len(value) <= MOST_PAIRED + 1:
        return False
    if not all([is_row(row) for row in value]):
        return False
    width = len(value[0])
    return 1 <= width <= MOST_PAIRED + 1 and all([len(row) == width for row in value])


def table_parts(table):
    """The tuple of all parts of a pair table, as forms."""
    if not is_pair_table(table):
        raise InvalidTable("a tuple of 1 to 13 tuples of 1 to 13 integers is wanted")
    first, second = len(table) - 1, len(table[0]) - 1
    if first + second > MOST_PAIRED:
        raise TooMany(MOST_PAIRED)
    found = []
    left = table
    for times in range(min(first, second) + 1):
        if times > 0:
            left = table_below(left)
        found.append(made_form(joined(left)))
    return tuple(found)


def table_below(table):
    """What is derived by x and v, less what is derived by y and u."""
    first, second = len(table) - 1, len(table[0]) - 1
    return [
        [
            (first - i) * (j + 1) * table[i][j + 1] - (i + 1) * (second - j) * table[i + 1][j]
            for j in range(second)
        ]
        for i in range(first)
    ]


def joined(table):
    """The entries of the form with x put for u, and y for v."""
    found = [0 for _ in range(len(table) + len(table[0]) - 1)]
    for i, row in enumerate(table):
        for j, entry in enumerate(row):
            found[i + j] = found[i + j] + entry
    return tuple(found)


def table_of_parts(first, second, parts):
    """The pair (table, bottom) of the only pair table of fractions with these parts."""
    need_number(first, 0, MOST_PAIRED)
    need_number(second, 0, MOST_PAIRED - first)
    if not are_parts(first, second, parts):
        raise InvalidOperation("a tuple of forms of the degrees of the parts is wanted")
    bottom = 1
    for times in range(len(parts)):
        bottom = lcm(bottom, part_bottom(first, second, times))
    table = [[0 for _ in range(second + 1)] for _ in range(first + 1)]
    for times, part in enumerate(parts):
        piece = spread(part.entries, first - times, second - times)
        for _ in range(times):
            piece = table_above(piece)
        factor = bottom // part_bottom(first, second, times)
        table = [[a + factor * b for a, b in zip(row, more)] for row, more in zip(table, piece)]
    shared = bottom
    for row in table:
        shared = gcd(shared, content_of(row))
    return (tuple([tuple([entry // shared for entry in row]) for row in table]), bottom // shared)


def are_parts(first, second, value):
    """Whether the value is a tuple of forms of the degrees of all parts."""
    many = min(first, second) + 1
    if not isinstance(value, tuple) or len(value) != many:
        return False
    if not all([isinstance(part, Form) for part in value]):
        return False
    return all([part.degree == first + second - 2 * times for times, part in enumerate(value)])


def part_bottom(first, second, times):
    """What the part with this index is divided by where the table is put together again.

    The table is the sum of the parts, each spread over both pairs of letters, times as many powers of x v - y u,
    divided by k! k! C(m + n - k + 1, k) for the part k (Clebsch and Gordan). Spreading divides by N! besides.
    """
    whole = first + second
    once = factorial(times)
    return once * once * comb(whole - times + 1, times) * factorial(whole - 2 * times)


def spread(entries, first, second):
    """N! times the symmetric pair table of these degrees that becomes the form if x is put for u, and y for v."""
    degree = first + second
    return [
        [
            entries[i + j] * comb(first, i) * comb(second, j) * factorial(i + j) * factorial(degree - i - j)
            for j in range(second + 1)
        ]
        for i in range(first + 1)
    ]


def table_above(table):
    """The table, multiplied by x v - y u."""
    first, second = len(table), len(table[0])
    found = [[0 for _ in range(second + 1)] for _ in range(first + 1)]
    for i in range(first):
        for j in range(second):
            found[i][j + 1] = found[i][j + 1] + table[i][j]
            found[i + 1][j] = found[i + 1][j] - table[i][j]
    return found
