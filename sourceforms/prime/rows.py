"""Rows of integers modulo a prime: forms, and polynomials from the highest power down without zeros ahead.

The integers of such a row go from 0 to the prime less 1. The polynomial 0 is ().
"""

from sourceforms.base.helper import lead_of
from sourceforms.form.forms import product_row


def modulo(row, prime):
    """What the integers of a row leave by a prime."""
    return tuple([number % prime for number in row])


def power_of(number, exponent, prime):
    """The power of an integer modulo a prime, by squaring."""
    found, square, left = 1, number % prime, exponent
    while left > 0:
        if left % 2 == 1:
            found = found * square % prime
        square = square * square % prime
        left = left // 2
    return found


def inverse_of(number, prime):
    """The integer whose product with this one, which the prime does not divide, leaves 1."""
    return power_of(number, prime - 2, prime)


def plain_row(row, prime):
    """The multiple of a row whose first integer other than 0 is 1; zeros stay."""
    lead = lead_of(row)
    if lead is None:
        return tuple(row)
    factor = inverse_of(row[lead], prime)
    return modulo([factor * number for number in row], prime)


def trimmed(row):
    """The row without zeros ahead."""
    lead = lead_of(row)
    return () if lead is None else tuple(row[lead:])


def divided(one, other, prime):
    """The pair of the quotient and the rest of two polynomials, the second one other than 0."""
    factor = inverse_of(other[0], prime)
    left = list(one)
    quotient = []
    for place in range(len(one) - len(other) + 1):
        number = left[place] * factor % prime
        quotient.append(number)
        for step, entry in enumerate(other):
            left[place + step] = (left[place + step] - number * entry) % prime
    return (tuple(quotient), trimmed(left))


def rest_of(one, other, prime):
    """The rest of a polynomial that is divided by another one."""
    return divided(one, other, prime)[1]


def part_of(one, other, prime):
    """The quotient of a polynomial and a divisor of it."""
    return divided(one, other, prime)[0]


def common_part(one, other, prime):
    """The greatest common divisor of two polynomials, the first one other than 0, with 1 ahead."""
    first, second = one, other
    while len(second) > 0:
        first, second = second, rest_of(first, second, prime)
    return plain_row(first, prime)


def derivative(row, prime):
    """The derivative of a polynomial."""
    degree = len(row) - 1
    return trimmed([entry * (degree - place) % prime for place, entry in enumerate(row[:-1])])


def product_rest(one, other, divisor, prime):
    """What the product of two polynomials leaves by a third one."""
    return rest_of(trimmed(modulo(product_row(one, other), prime)), divisor, prime)


def power_rest(row, exponent, divisor, prime):
    """What the power of a polynomial leaves by another one, by squaring."""
    found, square, left = rest_of((1,), divisor, prime), rest_of(row, divisor, prime), exponent
    while left > 0:
        if left % 2 == 1:
            found = product_rest(found, square, divisor, prime)
        square = product_rest(square, square, divisor, prime)
        left = left // 2
    return found


def less_letter(row, prime):
    """A polynomial less its letter."""
    longer = (0,) * (2 - len(row)) + row
    return trimmed(modulo(longer[:-2] + (longer[-2] - 1, longer[-1]), prime))


def plain_parts(row, prime):
    """The list of the products of all different factors that come at least k times, for k from 1 on.

    The degree is below the prime, so a derivative has each factor just once less.
    """
    found = []
    left = row
    while len(left) > 1:
        thinner = common_part(left, derivative(left, prime), prime)
        found.append(part_of(left, thinner, prime))
        left = thinner
    return found


def factor_degrees(row, prime):
    """The list of the degrees of all factors of a polynomial without repeated ones, with repeats."""
    found = []
    left, power, degree = row, (1, 0), 1
    while len(left) - 1 >= 2 * degree:
        # Just the factors whose degree divides this one divide the letter's power less the letter.
        power = power_rest(power, prime, left, prime)
        part = common_part(left, less_letter(power, prime), prime)
        for _ in range((len(part) - 1) // degree):
            found.append(degree)
        left = part_of(left, part, prime)
        power = rest_of(power, left, prime)
        degree = degree + 1
    if len(left) > 1:
        found.append(len(left) - 1)
    return found


def pattern_of(row, prime):
    """The pattern of a form other than 0: the pairs (degree, how often) of its factors."""
    lead = lead_of(row)
    found = []
    if lead > 0:
        found.append((1, lead))
    parts = plain_parts(row[lead:], prime) + [(1,)]
    for often in range(1, len(parts)):
        just = part_of(parts[often - 1], parts[often], prime)
        for degree in factor_degrees(just, prime):
            found.append((degree, often))
    return tuple(sorted(found))
