"""Forms that are products of different lines of points, found by roots modulo a prime that are lifted to its powers.

A form that has no y as a factor is told by a polynomial in z, for x / y; its entries go from the highest power down.
"""

from sourceforms.base.helper import lead_of, point_of
from sourceforms.form.divisors import thinned_row
from sourceforms.form.forms import quotient_row
from sourceforms.prime.rows import common_part, derivative, inverse_of, modulo

# All degrees are below this prime, so that derivatives modulo primes from it on tell repeated factors.
FIRST_PRIME = 43

# So many primes are asked whether a form has a root twice before its derivatives are.
ASKED_PRIMES = 5


def is_prime(number):
    """Whether an integer above 1 is a prime."""
    return all([number % part != 0 for part in range(2, number) if part * part <= number])


def prime_behind(number):
    """The least prime above an integer."""
    found = number + 1
    while not is_prime(found):
        found = found + 1
    return found


def is_thin_modulo(row, prime):
    """Whether a polynomial keeps its degree modulo a prime, and has no root twice there."""
    small = modulo(row, prime)
    if small[0] == 0:
        return False
    return len(common_part(small, derivative(small, prime), prime)) == 1


def has_root_twice(row):
    """Whether a form other than 0 of a degree below 43 has a root at least twice, in some greater field."""
    lead = lead_of(row)
    if lead > 1:
        return True
    left = row[lead:]
    if len(left) < 3:
        return False
    prime = FIRST_PRIME
    for _ in range(ASKED_PRIMES):
        if is_thin_modulo(left, prime):
            return False
        prime = prime_behind(prime)
    return len(thinned_row(left)) > 1


def value_modulo(row, z, modulus):
    """The value of a polynomial, modulo an integer."""
    total = 0
    for entry in row:
        total = (total * z + entry) % modulus
    return total


def roots_modulo(row, prime):
    """All roots of a polynomial modulo a prime, in a list."""
    small = modulo(row, prime)
    return [z for z in range(prime) if value_modulo(small, z, prime) == 0]


def lifted_point(row, root, prime):
    """The only point that can be a root of a polynomial's form and is the simple root modulo a prime, by Newton."""
    slopes = tuple([entry * (len(row) - 1 - i) for i, entry in enumerate(row[:-1])])
    # The lead times a root is an integer, and no greater than this.
    most = abs(row[0]) + max([abs(entry) for entry in row])
    whole, z = prime, root
    back = inverse_of(value_modulo(slopes, root, prime), prime)
    while whole <= 2 * most:
        whole = whole * whole
        z = (z - value_modulo(row, z, whole) * back) % whole
        back = back * (2 - value_modulo(slopes, z, whole) * back) % whole
    top = row[0] * z % whole
    if 2 * top > whole:
        top = top - whole
    return point_of(top, row[0])


def lifted_points(row, roots, prime):
    """The points of all simple roots modulo a prime, if they are roots of the polynomial's form, or None."""
    found = []
    for root in roots:
        point = lifted_point(row, root, prime)
        if quotient_row(row, (point[1], -point[0])) is None:
            return None
        found.append(point)
    return found


def split_points(row):
    """The different points of a form that is a number times the product of their lines, in a list, or None.

    The form is not 0, and its degree is below 43.
    """
    if has_root_twice(row):
        return None
    lead = lead_of(row)
    ends = [(1, 0)] if lead == 1 else []
    left = row[lead:]
    prime = FIRST_PRIME
    while True:
        if left[0] % prime != 0:
            roots = roots_modulo(left, prime)
            if len(roots) == len(left) - 1:
                points = lifted_points(left, roots, prime)
                return None if points is None else ends + points
            if is_thin_modulo(left, prime):
                return None
        prime = prime_behind(prime)
