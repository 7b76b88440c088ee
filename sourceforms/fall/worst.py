"""Worst forms: those with a root that comes more than half as often as the degree tells."""

from math import factorial

from sourceforms.base.helper import is_change, is_whole, is_whole_change, lead_of, need_number, powers_of, primitive_row
from sourceforms.base.ratios import reduced
from sourceforms.errors import InvalidOperation, InvalidTable, Refused
from sourceforms.form.divisors import thinned_rows
from sourceforms.form.forms import changed_row, need_form, quotient_row
from sourceforms.form.layings import laid_row

MAX_TOLD = 6

GREATEST_WEIGHT = 1000000

# How many told invariants there are, by the degree.
TOLD = {1: 0, 2: 1, 3: 1, 4: 2, 5: 3, 6: 4}


def greatest_times(form):
    """How often that root comes that comes most often, roots over greater fields counted."""
    need_form(form)
    if form.is_zero:
        raise Refused(("zero",))
    return len(thinned_rows(form.entries)) - 1


def fall_kind(form):
    """Whether the form "falls", is at the "edge" or "stands"."""
    need_form(form)
    if form.degree == 0:
        raise InvalidOperation("a form of a degree of at least 1 is wanted")
    if form.is_zero:
        return "falls"
    twice = 2 * greatest_times(form)
    if twice > form.degree:
        return "falls"
    if twice == form.degree:
        return "edge"
    return "stands"


def full_laying(one, other):
    """The entry of the laying of two forms of one degree that is taken as often as this degree tells."""
    degree = len(one) - 1
    total = 0
    for i in range(degree + 1):
        term = factorial(i) * factorial(degree - i) * one[i] * other[degree - i]
        total = total + term if i % 2 == 0 else total - term
    return factorial(degree) * total


def told_of_four(row, index):
    """A told invariant of a form of the degree 4."""
    if index == 0:
        return full_laying(row, row)
    return full_laying(row, laid_row(row, row, 2))


def told_of_five(row, index):
    """A told invariant of a form of the degree 5."""
    i = laid_row(row, row, 4)
    if index == 0:
        return full_laying(i, i)
    j = laid_row(row, i, 2)
    t = laid_row(j, j, 2)
    return full_laying(i, t) if index == 1 else full_laying(t, t)


def told_of_six(row, index):
    """A told invariant of a form of the degree 6."""
    if index == 0:
        return full_laying(row, row)
    i = laid_row(row, row, 4)
    if index == 1:
        return full_laying(i, i)
    if index == 2:
        return full_laying(i, laid_row(i, i, 2))
    single = laid_row(row, i, 4)
    u = laid_row(i, single, 2)
    return full_laying(laid_row(i, u, 2), single)


def told_of(row, index):
    """The told invariant of a form with this index; its degree is from 2 to 6."""
    degree = len(row) - 1
    if degree == 2:
        return full_laying(row, row)
    if degree == 3:
        hesse = laid_row(row, row, 2)
        return full_laying(hesse, hesse)
    if degree == 4:
        return told_of_four(row, index)
    if degree == 5:
        return told_of_five(row, index)
    return told_of_six(row, index)


def need_told(form):
    """Refuse what is no form of a degree from 1 to 6."""
    need_form(form)
    if not 1 <= form.degree <= MAX_TOLD:
        raise InvalidOperation("a form of a degree from 1 to 6 is wanted")


def told_invariants(form):
    """The tuple of the told invariants."""
    need_told(form)
    return tuple([told_of(form.entries, index) for index in range(TOLD[form.degree])])


def push_to(a, b):
    """A change with a determinant other than 0 that makes a root (a, b) the point (1, 0)."""
    if a != 0:
        return ((a, 0), (b, 1))
    return ((a, 1), (b, 0))


def fall_paper(form):
    """A push, or the index of a told invariant that is not 0."""
    place = lead_of(told_invariants(form))
    if place is not None:
        return ("invariant", place)
    if form.is_zero:
        return ("push", push_to(1, 0))
    # Only one root comes so often, so the last row but one is its line.
    line = thinned_rows(form.entries)[-2]
    return ("push", push_to(-line[1], line[0]))


def is_push(form, value):
    """Whether the value is a push of the form."""
    if not is_whole_change(value):
        return False
    (a, b), (c, d) = value
    if a * d == b * c:
        return False
    # The entries that must be 0 tell that the point which becomes (1, 0) is a root so often.
    line = primitive_row((c, -a))
    left = form.entries
    for _ in range(form.degree // 2 + 1):
        left = quotient_row(left, line)
        if left is None:
            return False
    return True


def is_fall_paper(form, value):
    """Whether the value is a fall paper of the form."""
    need_told(form)
    if not isinstance(value, tuple) or len(value) != 2:
        return False
    word, shown = value
    if word == "push":
        return is_push(form, shown)
    if word != "invariant" or not is_whole(shown) or not 0 <= shown < TOLD[form.degree]:
        return False
    return told_of(form.entries, shown) != 0


def weighed(entry, weight, exponent):
    """The ratio of an entry times a weight, raised to an exponent, which can be below 0."""
    power = powers_of(weight, abs(exponent))[-1]
    if exponent < 0:
        return reduced(entry, power)
    return (entry * power, 1)


def pushed(form, table, weight):
    """The ratios that the entries of the changed form become by a weight."""
    need_form(form)
    if not is_change(table):
        raise InvalidTable("a pair of pairs of integers is wanted")
    need_number(weight, 1, GREATEST_WEIGHT)
    row = changed_row(form.entries, table)
    return tuple([weighed(entry, weight, form.degree - 2 * index) for index, entry in enumerate(row)])
