"""What two forms without a common root kill together, told by an inverse of one modulo the other.

Let G be a polynomial in z with the entries of a form, the one with the index i at the power i. A row a_0, a_1, .. is
killed by the form exactly if G times the sum of a_k / z ** (k + 1) is a polynomial. So the sum is N / G. A second
form H kills the row, up to the degree that both tell, exactly if H N leaves an integer by G.

Rows here are polynomials from the highest power down, without zeros ahead; the polynomial 0 is ().
"""

from math import gcd

from sourceforms.base.helper import content_of, lead_of, powers_of


def trimmed(row):
    """The row without zeros ahead."""
    lead = lead_of(row)
    return () if lead is None else tuple(row[lead:])


def combined(one, other, factors, step):
    """The first factor times a polynomial, less the second factor times z ** step times another one."""
    up, down = factors
    longer = other + (0,) * step if len(other) > 0 else ()
    width = max(len(one), len(longer))
    first = (0,) * (width - len(one)) + one
    second = (0,) * (width - len(longer)) + longer
    return trimmed([up * a - down * b for a, b in zip(first, second)])


def rest_pair(one, other):
    """What a polynomial leaves by another one, but for a factor, and its partner.

    Each is a pair of a polynomial and a partner, to which the same is done.
    """
    (left, partner), (row, last) = one, other
    while len(left) >= len(row):
        shared = gcd(left[0], row[0])
        factors, step = (row[0] // shared, left[0] // shared), len(left) - len(row)
        left, partner = combined(left, row, factors, step), combined(partner, last, factors, step)
    shared = gcd(content_of(left), content_of(partner))
    return (tuple([number // shared for number in left]), tuple([number // shared for number in partner]))


def inverse_of_row(row, modulus):
    """A polynomial of a lesser degree than the modulus, whose product with the row leaves an integer but 0, or None.

    The modulus has a degree of at least 1.
    """
    older, newer = (modulus, ()), rest_pair((row, (1,)), (modulus, ()))
    while len(newer[0]) > 1:
        older, newer = newer, rest_pair(older, newer)
    return None if len(newer[0]) == 0 else newer[1]


def inverse_series(one, other, many):
    """So many level entries, but for a factor, of the form that two forms kill; None if they have a common root."""
    if one[-1] == 0:
        one, other = other, one
    if one[-1] == 0:
        return None
    modulus = one[::-1]
    top = inverse_of_row(trimmed(other[::-1]), modulus)
    if top is None:
        return None
    top = (0,) * (len(modulus) - 1 - len(top)) + top
    powers = powers_of(modulus[0], many)
    found = []
    # Each number is that of the series times a power of the lead, so that none is a fraction.
    for place in range(many):
        total = top[place] * powers[place] if place < len(top) else 0
        for back in range(1, min(place, len(top)) + 1):
            total = total - modulus[back] * found[place - back] * powers[back - 1]
        found.append(total)
    return [number * powers[many - 1 - place] for place, number in enumerate(found)]
