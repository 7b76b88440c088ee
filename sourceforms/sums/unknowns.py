"""All sources of a size and a weight, found by the terms without c1.

Where the entry c1 is a factor of a term, the term that has c0 for one of these factors tells its integer by others
with fewer factors c1: at that term the lowered sum is 0. So the integers of the terms without c1 tell all others.
What is left are conditions at the terms without c0.
"""

from math import factorial

from sourceforms.base.helper import powers_of, primitive_row
from sourceforms.base.tables import echelon, kernel_rows
from sourceforms.count.boxes import boxes
from sourceforms.sums.sums import moved


def exponents_of(box, degree, size):
    """The exponents of the term whose indices other than 0 are the members of a box."""
    return (size - len(box),) + tuple([len([member for member in box if member == k]) for k in range(1, degree + 1)])


def terms_of(degree, size, weight):
    """The exponents of all terms of a size and a weight, ascending."""
    return sorted([exponents_of(box, degree, size) for box in boxes(weight, size, degree)])


def scale_of(degree, often):
    """What the integer of a term with so many factors c1 is multiplied by, to be told by integers."""
    return powers_of(degree, often)[often] * factorial(often)


def rest_at(exponents, told, many):
    """What the lowered sum has at a term, but for what comes of c1, by the scaled integers that are told so far."""
    degree = len(exponents) - 1
    total = [0 for _ in range(many)]
    for index in range(2, degree + 1):
        if exponents[index - 1] > 0:
            factor = (degree - index + 1) * (exponents[index] + 1)
            if index == 2:
                factor = factor * degree * exponents[1]
            more = told[moved(exponents, index - 1, index)]
            total = [a + factor * b for a, b in zip(total, more)]
    return total


def told_terms(terms, free):
    """For each term the row of integers that tells its scaled integer by those of the terms without c1."""
    told = {}
    for place, exponents in enumerate(free):
        told[exponents] = [1 if k == place else 0 for k in range(len(free))]
    # A term is told by terms with fewer factors c1.
    for _, exponents in sorted([(exponents[1], exponents) for exponents in terms]):
        if exponents[1] > 0:
            rest = rest_at(moved(exponents, 1, 0), told, len(free))
            told[exponents] = [-number for number in rest]
    return told


def source_rows(degree, size, weight, terms):
    """The echelon of the integers of all sources of a size and a weight, by all of its terms, ascending."""
    free = [exponents for exponents in terms if exponents[1] == 0]
    if len(free) == 0:
        return ()
    told = told_terms(terms, free)
    below = terms_of(degree, size, weight - 1) if weight > 0 else []
    conditions = [rest_at(exponents, told, len(free)) for exponents in below if exponents[0] == 0]
    greatest = max([exponents[1] for exponents in terms])
    whole = scale_of(degree, greatest)
    scales = [whole // scale_of(degree, exponents[1]) for exponents in terms]
    found = []
    for row in kernel_rows(conditions, len(free)):
        full = [sum([a * b for a, b in zip(told[exponents], row)]) for exponents in terms]
        found.append(primitive_row([scale * number for scale, number in zip(scales, full)]))
    return echelon(found)
