"""Common divisors of forms, as rows of integers of any length."""

from math import gcd

from sourceforms.base.helper import content_of, lead_of, primitive_row
from sourceforms.base.modular import EXPONENTS, bits_of, common_by, short_row
from sourceforms.form.forms import derived_row, quotient_row


def rest_row(one, other):
    """What a polynomial leaves when it is divided by another one, without a common divisor; () for nothing.

    Both are rows from the highest power down, without zeros ahead. The signs of the rest are kept.
    """
    left = one
    while len(left) >= len(other):
        shared = gcd(left[0], other[0])
        if other[0] < 0:
            shared = -shared
        up, down = other[0] // shared, left[0] // shared
        head = [up * a - down * b for a, b in zip(left, other)]
        left = head[1:] + [up * a for a in left[len(other):]]
        lead = lead_of(left)
        left = [] if lead is None else left[lead:]
    content = content_of(left)
    return tuple([number // content for number in left])


def common_by_rests(one, other):
    """The greatest common divisor of two polynomials, by what they leave."""
    first, second = one, other
    while len(second) > 0:
        first, second = second, rest_row(first, second)
    return primitive_row(first)


def common_by_primes(one, other, most):
    """The greatest common divisor of two polynomials, found modulo a prime of at most so many bits, or None."""
    for exponent in EXPONENTS:
        found = common_by(one, other, exponent) if exponent <= most else None
        short = None if found is None else short_row(found, exponent)
        # No common divisor has a greater degree than one modulo the prime, so what divides both is the greatest one.
        if short is not None and quotient_row(one, short) is not None and quotient_row(other, short) is not None:
            return short
    return None


def common_polynomial(one, other):
    """The greatest common divisor of two polynomials, rows from the highest power down without zeros ahead."""
    first, second = primitive_row(one), primitive_row(other)
    # Exact rests have at the end about so many bits.
    bits = bits_of([first, second]) * 2 * min(len(first), len(second))
    found = common_by_primes(first, second, bits // 5)
    return common_by_rests(first, second) if found is None else found


def common_row(one, other):
    """The entries of the common divisor of the greatest degree of two forms other than 0."""
    first, second = lead_of(one), lead_of(other)
    # The zeros ahead tell how often the line y divides.
    return (0,) * min(first, second) + common_polynomial(one[first:], other[second:])


def thinned_row(row):
    """The entries of the form with each root of a form other than 0 once less; its degree is at least 1."""
    first, second = derived_row(row, 1, 0), derived_row(row, 0, 1)
    if lead_of(first) is None:
        return primitive_row(second)
    if lead_of(second) is None:
        return primitive_row(first)
    return common_row(first, second)


def thinned_rows(row):
    """The row of a form other than 0, and those with each root once less, down to the degree 0, in a list."""
    found = [row]
    while len(found[-1]) > 1:
        found.append(thinned_row(found[-1]))
    return found


def plain_part_row(row):
    """The entries of the product of all lines of a form other than 0, each once."""
    if len(row) == 1:
        return (1,)
    return quotient_row(primitive_row(row), thinned_row(row))
