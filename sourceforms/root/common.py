"""Roots that two forms have in common, and roots that one form has more than once."""

from sourceforms.base.helper import powers_of, primitive_row
from sourceforms.base.tables import determinant_of
from sourceforms.errors import InvalidOperation, TooMany
from sourceforms.form.divisors import common_row, plain_part_row, thinned_rows
from sourceforms.form.forms import derived_row, made_form, need_form, quotient_row

MAX_SUM = 24
MAX_DISCRIMINANT = 12


def sylvester_rows(one, other):
    """The Sylvester table of two forms, told by their entries."""
    first, second = len(one) - 1, len(other) - 1
    upper = [(0,) * i + one + (0,) * (second - 1 - i) for i in range(second)]
    lower = [(0,) * i + other + (0,) * (first - 1 - i) for i in range(first)]
    return tuple(upper + lower)


def need_sylvester(one, other):
    """Refuse forms without a Sylvester table."""
    need_form(one)
    need_form(other)
    if one.degree == 0 or other.degree == 0:
        raise InvalidOperation("forms of degrees of at least 1 are wanted")
    if one.degree + other.degree > MAX_SUM:
        raise TooMany(MAX_SUM)


def sylvester_table(one, other):
    """The Sylvester table of two forms."""
    need_sylvester(one, other)
    return sylvester_rows(one.entries, other.entries)


def resultant(one, other):
    """The resultant of two forms."""
    need_sylvester(one, other)
    return determinant_of(sylvester_rows(one.entries, other.entries))


def bezout_rows(one, other):
    """The Bezout table of two forms of one degree, told by their entries."""
    degree = len(one) - 1
    found = []
    above = [0 for _ in range(degree + 1)]
    for i in range(degree):
        # The coefficient of two powers is the entry ahead in this row, less the entry above.
        row = [one[i] * other[j + 1] - one[j + 1] * other[i] + above[j + 1] for j in range(degree)]
        found.append(tuple(row))
        above = row + [0]
    return tuple(found)


def bezout_table(one, other):
    """The Bezout table of two forms of one degree."""
    need_form(one)
    need_form(other)
    if one.degree != other.degree or one.degree == 0:
        raise InvalidOperation("forms of one degree of at least 1 are wanted")
    if one.degree > MAX_SUM:
        raise TooMany(MAX_SUM)
    return bezout_rows(one.entries, other.entries)


def common_form(one, other):
    """The form with the roots that two forms have in common."""
    need_form(one)
    need_form(other)
    if one.is_zero or other.is_zero:
        raise InvalidOperation("forms other than 0 are wanted")
    return made_form(common_row(one.entries, other.entries))


def discriminant(form):
    """The discriminant of a form."""
    need_form(form)
    degree = form.degree
    if degree < 2:
        raise InvalidOperation("a form of a degree of at least 2 is wanted")
    if degree > MAX_DISCRIMINANT:
        raise TooMany(MAX_DISCRIMINANT)
    rows = sylvester_rows(derived_row(form.entries, 1, 0), derived_row(form.entries, 0, 1))
    sign = 1 if degree % 4 < 2 else -1
    return sign * determinant_of(rows) // powers_of(degree, degree - 2)[-1]


def plain_part(form):
    """The product of all lines of a form, each once, over every greater field."""
    need_form(form)
    if form.is_zero:
        raise InvalidOperation("a form other than 0 is wanted")
    return made_form(plain_part_row(form.entries))


def times_parts(form):
    """The dict from how often roots come to the products of the lines of these roots."""
    need_form(form)
    if form.is_zero:
        raise InvalidOperation("a form other than 0 is wanted")
    thinner = thinned_rows(primitive_row(form.entries))
    # The quotients have each root that comes at least so often.
    parts = [quotient_row(row, behind) for row, behind in zip(thinner, thinner[1:])] + [(1,)]
    found = {}
    for often in range(1, len(parts)):
        part = quotient_row(parts[often - 1], parts[often])
        if len(part) > 1:
            found[often] = made_form(part)
    return found
