"""Killers: forms that make the zero form of another one, if their letters are read as derivatives."""

from math import comb, factorial

from sourceforms.base.helper import lead_of, need_number, primitive_row
from sourceforms.base.modular import EXPONENTS, FEW_BITS, bits_of, echelon_by, kernel_long
from sourceforms.base.tables import echelon
from sourceforms.errors import InvalidOperation, Refused, TooMany
from sourceforms.form.forms import MAX_DEGREE, derived_row, made_form, multiple_row, need_form, quotient_row, sum_row
from sourceforms.power.inverse import inverse_series


def level_row(row):
    """The level entries of a form."""
    degree = len(row) - 1
    return tuple([factorial(i) * factorial(degree - i) * entry for i, entry in enumerate(row)])


def level_rows(levels, degree):
    """The level table of a degree, by the level entries, which can have lost a common divisor."""
    return tuple([levels[first:first + degree + 1] for first in range(len(levels) - degree)])


def level_table(form, degree):
    """The level table of a form for a degree."""
    need_form(form)
    need_number(degree, 0, form.degree)
    return level_rows(level_row(form.entries), degree)


def kills_levels(row, levels):
    """Whether a form kills another one, which is told by its level entries and has no lesser degree."""
    found = [sum([a * b for a, b in zip(row, part)]) for part in level_rows(levels, len(row) - 1)]
    return lead_of(found) is None


def does_kill_row(one, row):
    """Whether a form kills another one, both told by their entries."""
    return len(one) > len(row) or kills_levels(one, level_row(row))


def does_kill(one, form):
    """Whether the first form kills the second one."""
    need_form(one)
    need_form(form)
    return does_kill_row(one.entries, form.entries)


def killed_row(one, row):
    """The entries of what comes of the second form, which has no lesser degree, if the first one acts on it."""
    degree = len(one) - 1
    total = (0,) * (len(row) - degree)
    for i, entry in enumerate(one):
        if entry != 0:
            total = sum_row(total, multiple_row(derived_row(row, degree - i, i), entry))
    return total


def killed(one, form):
    """What comes of the second form if the first one acts on it."""
    need_form(one)
    need_form(form)
    if one.degree > form.degree:
        raise InvalidOperation("no form acts on one of a lesser degree")
    return made_form(killed_row(one.entries, form.entries))


def plain_levels(row):
    """The level entries without a common divisor: they have the same killers, and are much shorter."""
    return primitive_row(level_row(row))


def killer_rows(levels, degree):
    """The echelon of the entries of all killers of a degree, up to one above that of the form."""
    return kernel_long(level_rows(levels, degree), degree + 1)


def least_degree(levels):
    """The least degree of a killer other than a zero form: the rank of the level table in the middle.

    For the zero form it is 0.
    """
    middle = level_rows(levels, (len(levels) - 1) // 2)
    if bits_of([levels]) > FEW_BITS:
        # A rank modulo a prime is no greater, and no rank is greater than the degree of a killer but 0.
        for exponent in EXPONENTS:
            found = len(echelon_by(middle, exponent))
            if 2 * found >= len(levels) or len(killer_rows(levels, found)) > 0:
                return found
    return len(echelon(middle))


def rank_at(least, degree, at):
    """The rank of the level table for `at`, by the least degree of a killer and the degree of the form."""
    return min(at + 1, least, degree + 1 - at)


def killer_ranks(form):
    """The ranks of all level tables."""
    need_form(form)
    least = least_degree(plain_levels(form.entries))
    return tuple([rank_at(least, form.degree, at) for at in range(form.degree + 1)])


def killers(form, degree):
    """The echelon of all killers of a degree."""
    need_form(form)
    need_number(degree, 0, min(form.degree + 1, MAX_DEGREE))
    return tuple([made_form(row) for row in killer_rows(plain_levels(form.entries), degree)])


def two_killers(form):
    """Two killers, of which all others are made."""
    need_form(form)
    if form.is_zero:
        raise Refused(("zero",))
    levels = plain_levels(form.entries)
    least = least_degree(levels)
    last = form.degree + 2 - least
    if last > MAX_DEGREE:
        raise TooMany(MAX_DEGREE)
    first = killer_rows(levels, least)[0]
    others = [row for row in killer_rows(levels, last) if quotient_row(row, first) is None]
    return (made_form(first), made_form(others[0]))


def killed_by(one, other):
    """The form that is killed by two forms without a common root."""
    need_form(one)
    need_form(other)
    if one.degree == 0 or other.degree == 0:
        raise InvalidOperation("forms of degrees of at least 1 are wanted")
    if one.degree + other.degree > MAX_DEGREE + 2:
        raise TooMany(MAX_DEGREE)
    degree = one.degree + other.degree - 2
    levels = inverse_series(one.entries, other.entries, degree + 1)
    if levels is None:
        raise Refused(("common",))
    return made_form(primitive_row([comb(degree, i) * level for i, level in enumerate(levels)]))
