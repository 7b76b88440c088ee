"""Worst forms: those with a root that comes more than half as often as the degree tells."""

from sourceforms.base.helper import is_change, is_whole, is_whole_change, lead_of, need_number, powers_of
from sourceforms.base.ratios import reduced
from sourceforms.errors import InvalidOperation, InvalidTable, Refused
from sourceforms.form.divisors import thinned_row
from sourceforms.form.forms import changed_row, need_form
from sourceforms.form.layings import laid_row

MAX_TOLD = 6

GREATEST_WEIGHT = 1000000


def thinned_rows(row):
    """The row of a form other than 0, and those with each root once less, down to the degree 0, in a list."""
    found = [row]
    while len(found[-1]) > 1:
        found.append(thinned_row(found[-1]))
    return found


def greatest_times(form):
    """How often that root comes that comes most often, roots over greater fields counted."""
    need_form(form)
    if form.is_zero:
        raise Refused(("zero",))
    return len(thinned_rows(form.entries)) - 1


def fall_kind(form):
    """Whether the form "falls", is at the "edge" or "stands"."""
    need_form(form)
    if form.degree == 0:
        raise InvalidOperation("a form of a degree of at least 1 is wanted")
    if form.is_zero:
        return "falls"
    twice = 2 * greatest_times(form)
    if twice > form.degree:
        return "falls"
    if twice == form.degree:
        return "edge"
    return "stands"


def told_of_five(row):
    """The told invariants of a form of the degree 5."""
    i = laid_row(row, row, 4)
    j = laid_row(row, i, 2)
    t = laid_row(j, j, 2)
    return (laid_row(i, i, 2), laid_row(i, t, 2), laid_row(t, t, 2))


def told_of_six(row):
    """The told invariants of a form of the degree 6."""
    i = laid_row(row, row, 4)
    double = laid_row(i, i, 2)
    single = laid_row(row, i, 4)
    u = laid_row(i, single, 2)
    v = laid_row(i, u, 2)
    return (laid_row(row, row, 6), laid_row(i, i, 4), laid_row(i, double, 4), laid_row(v, single, 2))


def told_rows_of(row):
    """The told invariants as rows of one entry."""
    degree = len(row) - 1
    if degree == 1:
        return ()
    if degree == 2:
        return (laid_row(row, row, 2),)
    if degree == 5:
        return told_of_five(row)
    if degree == 6:
        return told_of_six(row)
    hesse = laid_row(row, row, 2)
    if degree == 3:
        return (laid_row(hesse, hesse, 2),)
    return (laid_row(row, row, 4), laid_row(row, hesse, 4))


def need_told(form):
    """Refuse what is no form of a degree from 1 to 6."""
    need_form(form)
    if not 1 <= form.degree <= MAX_TOLD:
        raise InvalidOperation("a form of a degree from 1 to 6 is wanted")


def told_invariants(form):
    """The tuple of the told invariants."""
    need_told(form)
    return tuple([row[0] for row in told_rows_of(form.entries)])


def push_to(a, b):
    """A change with a determinant other than 0 that makes a root (a, b) the point (1, 0)."""
    if a != 0:
        return ((a, 0), (b, 1))
    return ((a, 1), (b, 0))


def fall_paper(form):
    """A push, or the index of a told invariant that is not 0."""
    place = lead_of(told_invariants(form))
    if place is not None:
        return ("invariant", place)
    if form.is_zero:
        return ("push", push_to(1, 0))
    # Only one root comes so often, so the last row but one is its line.
    line = thinned_rows(form.entries)[-2]
    return ("push", push_to(-line[1], line[0]))


def is_push(form, value):
    """Whether the value is a push of the form."""
    if not is_whole_change(value):
        return False
    if value[0][0] * value[1][1] == value[0][1] * value[1][0]:
        return False
    row = changed_row(form.entries, value)
    return lead_of(row[:form.degree // 2 + 1]) is None


def is_fall_paper(form, value):
    """Whether the value is a fall paper of the form."""
    told = told_invariants(form)
    if not isinstance(value, tuple) or len(value) != 2:
        return False
    word, shown = value
    if word == "push":
        return is_push(form, shown)
    if word == "invariant":
        return is_whole(shown) and 0 <= shown < len(told) and told[shown] != 0
    return False


def weighed(entry, weight, exponent):
    """The ratio of an entry times a weight, raised to an exponent, which can be below 0."""
    power = powers_of(weight, abs(exponent))[-1]
    if exponent < 0:
        return reduced(entry, power)
    return (entry * power, 1)


def pushed(form, table, weight):
    """The ratios that the entries of the changed form become by a weight."""
    need_form(form)
    if not is_change(table):
        raise InvalidTable("a pair of pairs of integers is wanted")
    need_number(weight, 1, GREATEST_WEIGHT)
    row = changed_row(form.entries, table)
    return tuple([weighed(entry, weight, form.degree - 2 * index) for index, entry in enumerate(row)])
