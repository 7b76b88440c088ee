"""Rows of integers modulo great primes of the form 2 ** k - 1, by which rows of short integers are found again.

Where integers are long, exact steps make far longer ones, although what is asked for is often short. So it is
worked out modulo a prime, told by short integers, and then proved by the caller without the prime.
"""

from math import isqrt

from sourceforms.base.helper import lead_of, primitive_row
from sourceforms.base.tables import kernel_rows

# For each of these k the integer 2 ** k - 1 is a prime (Mersenne).
EXPONENTS = (521, 1279, 2203, 4423, 9689, 19937, 44497, 86243)

# Up to so many bits exact steps are faster.
FEW_BITS = 700


def prime_of(exponent):
    """The prime with an exponent."""
    return (1 << exponent) - 1


def bits_of(rows):
    """How many bits the longest integer of some rows has."""
    return max([0] + [abs(number).bit_length() for row in rows for number in row])


def folded(number, exponent):
    """What an integer leaves by the prime with an exponent."""
    prime = prime_of(exponent)
    left = number
    while left > prime or left < 0:
        left = (left & prime) + (left >> exponent)
    return 0 if left == prime else left


def folded_row(row, exponent):
    """What the integers of a row leave, in a list."""
    return [folded(number, exponent) for number in row]


def inverse_by(number, exponent):
    """The integer whose product with this one, which is not 0, leaves 1."""
    older, newer = prime_of(exponent), number
    first, second = 0, 1
    while newer > 1:
        times = older // newer
        older, newer = newer, older - times * newer
        first, second = second, first - times * second
    return folded(second, exponent)


def scaled_row(row, factor, exponent):
    """The multiple of a row, in a list."""
    return [folded(factor * number, exponent) for number in row]


def less_row(row, base, factor, exponent):
    """A row less the multiple of another one, in a list."""
    return [folded(a - factor * b, exponent) for a, b in zip(row, base)]


def bottom_of(number, exponent, most):
    """A short integer by which a number is multiplied to leave at most so much, or the opposite of such."""
    older, newer = prime_of(exponent), number
    first, second = 0, 1
    while newer > most:
        times = older // newer
        older, newer = newer, older - times * newer
        first, second = second, first - times * second
    return abs(second)


def short_row(row, exponent):
    """The shortest integers, without a common divisor, of which a row is a multiple modulo the prime, or None."""
    prime = prime_of(exponent)
    most = isqrt(prime // 2)
    factor = 1
    for number in row:
        left = folded(number * factor, exponent)
        if min(left, prime - left) > most:
            factor = factor * bottom_of(left, exponent, most)
            if factor > most:
                return None
    found = scaled_row(row, factor, exponent)
    return primitive_row([number if number <= most else number - prime for number in found])


def echelon_by(rows, exponent):
    """The rows that an echelon has modulo the prime, each with 1 at its lead, in a list."""
    left = [folded_row(row, exponent) for row in rows]
    width = len(left[0]) if len(left) > 0 else 0
    done = []
    for column in range(width):
        places = [place for place, row in enumerate(left) if row[column] != 0]
        if len(places) > 0:
            base = left[places[0]]
            base = scaled_row(base, inverse_by(base[column], exponent), exponent)
            rest = left[:places[0]] + left[places[0] + 1:]
            left = [less_row(row, base, row[column], exponent) if row[column] != 0 else row for row in rest]
            done = [less_row(row, base, row[column], exponent) if row[column] != 0 else row for row in done] + [base]
    return done


def is_in_kernel(row, rows):
    """Whether the products of a row and all rows of a table are 0."""
    return all([sum([a * b for a, b in zip(row, other)]) == 0 for other in rows])


def kernel_by(rows, width, exponent):
    """The kernel of rows, told by a prime and proved without it, or None if this prime is too short."""
    base = echelon_by([row[::-1] for row in rows], exponent)
    leads = [lead_of(row) for row in base]
    found = []
    for free in range(width - 1, -1, -1):
        if free not in leads:
            row = [0 for _ in range(width)]
            row[free] = 1
            for lead, other in zip(leads, base):
                row[lead] = folded(-other[free], exponent)
            short = short_row(row[::-1], exponent)
            if short is None or not is_in_kernel(short, rows):
                return None
            found.append(short)
    # There are no fewer rows modulo a prime than there are at all, so these are all.
    return tuple(found)


def kernel_long(rows, width):
    """The kernel of rows of this width, which can have long integers."""
    bits = bits_of(rows)
    if bits > FEW_BITS:
        # Exact steps make integers of about so many bits; a prime must be much shorter to be worth its while.
        most = bits * min(len(rows), width) // 5
        for exponent in EXPONENTS:
            found = kernel_by(rows, width, exponent) if exponent <= most else None
            if found is not None:
                return found
    return kernel_rows(rows, width)


def rest_by(one, other, exponent):
    """What a polynomial leaves by another one with 1 ahead, modulo the prime, without zeros ahead; lists."""
    left = one
    while len(left) >= len(other):
        if left[0] != 0:
            left = less_row(left, other + [0 for _ in range(len(left) - len(other))], left[0], exponent)
        left = left[1:]
    lead = lead_of(left)
    return [] if lead is None else left[lead:]


def common_by(one, other, exponent):
    """The greatest common divisor of two polynomials modulo the prime, with 1 ahead, or None.

    There is none if the prime divides the first integer of the first one; both are other than 0.
    """
    first, second = folded_row(one, exponent), folded_row(other, exponent)
    if first[0] == 0:
        return None
    lead = lead_of(second)
    second = [] if lead is None else second[lead:]
    while len(second) > 0:
        second = scaled_row(second, inverse_by(second[0], exponent), exponent)
        first, second = second, rest_by(first, second, exponent)
    return scaled_row(first, inverse_by(first[0], exponent), exponent)
