"""Forms whose second or fourth layings are 0: powers, forms near them, and the forms of the solids."""

from sourceforms.base.helper import is_same, is_whole, is_whole_point, lead_of, point_of
from sourceforms.errors import InvalidOperation, UnknownName
from sourceforms.form.divisors import thinned_row
from sourceforms.form.forms import made_form, multiple_row, need_form, power_row, quotient_row
from sourceforms.form.layings import laid_row

LEAST_DEGREE = 4

KLEIN = {
    "four": (1, 0, 0, 1, 0),
    "six": (0, 1, 0, 0, 0, -1, 0),
    "twelve": (0, 1, 0, 0, 0, 0, 11, 0, 0, 0, 0, -1, 0),
}

# The names by the degrees.
SOLIDS = {4: "four", 6: "six", 12: "twelve"}


def klein_form(name):
    """The Klein form with a name."""
    if not isinstance(name, str) or name not in KLEIN:
        raise UnknownName(name)
    return made_form(KLEIN[name])


def line_power(point, degree):
    """The entries of the line of a point, taken so many times."""
    return power_row(point[1], -point[0], degree)


def line_told(row):
    """The pair (k, point) of a form that is k times the line of the point, as often as its degree tells, or None.

    The form is not 0, and its degree is at least 1.
    """
    degree = len(row) - 1
    # The second entry of (b x - a y) ** n is -n a / b times the first one.
    point = (1, 0) if row[0] == 0 else point_of(-row[1], degree * row[0])
    power = line_power(point, degree)
    lead = lead_of(power)
    number = row[lead] // power[lead]
    if multiple_row(power, number) != row:
        return None
    return (number, point)


def power_told(row):
    """The pair (k, point) of a form that is a number times a power, or None; any point serves if none is told."""
    if len(row) == 1 or lead_of(row) is None:
        return (row[0], (1, 0))
    return line_told(row)


def is_power_told(row, number, point):
    """Whether a form is this number times the power of the line of this point."""
    if len(row) == 1 or lead_of(row) is None:
        return is_same(number, row[0]) and is_whole_point(point)
    return is_same((number, point), line_told(row))


def entry_paper(row):
    """The paper with an entry other than 0 of a laying: the shortest one, since papers should not be long."""
    _, index = min([(abs(entry), index) for index, entry in enumerate(row) if entry != 0])
    return ("entry", index, row[index])


def is_entry_paper(row, value):
    """Whether the value tells an entry other than 0 of a laying."""
    if not isinstance(value, tuple) or len(value) != 3 or not is_whole(value[1]):
        return False
    index = value[1]
    if not 0 <= index < len(row) or row[index] == 0:
        return False
    return is_same(value, ("entry", index, row[index]))


def power_paper(form):
    """A paper about the second laying: the power that a form is, or an entry other than 0."""
    need_form(form)
    row = form.entries
    told = power_told(row)
    if told is not None:
        return ("power", told[0], told[1])
    return entry_paper(laid_row(row, row, 2))


def is_power_paper(form, value):
    """Whether the value is a right paper about the second laying."""
    need_form(form)
    row = form.entries
    if not isinstance(value, tuple) or len(value) != 3:
        return False
    if is_same(value[0], "power"):
        return is_power_told(row, value[1], value[2])
    return len(row) > 2 and is_entry_paper(laid_row(row, row, 2), value)


def klein_told(row):
    """The paper about the fourth laying of a form, if this laying is 0, or None."""
    if lead_of(row) is None:
        return ("zero",)
    told = line_told(row)
    if told is not None:
        return ("power", told[0], told[1])
    if lead_of(laid_row(row, row, 4)) is not None:
        return None
    thinner = thinned_row(row)
    if len(thinner) == 1:
        return (SOLIDS[len(row) - 1],)
    point = line_told(thinner)[1]
    number, other = line_told(quotient_row(row, line_power(point, len(row) - 2)))
    return ("near", number, point, other)


def need_fourth(form):
    """Refuse what is no form of a degree of at least 4."""
    need_form(form)
    if form.degree < LEAST_DEGREE:
        raise InvalidOperation("a form of a degree of at least 4 is wanted")


def klein_paper(form):
    """A paper about the fourth laying: the kind of a form, or an entry other than 0."""
    need_fourth(form)
    told = klein_told(form.entries)
    if told is not None:
        return told
    return entry_paper(laid_row(form.entries, form.entries, 4))


def is_klein_paper(form, value):
    """Whether the value is a right paper about the fourth laying."""
    need_fourth(form)
    told = klein_told(form.entries)
    if told is not None:
        return is_same(value, told)
    return is_entry_paper(laid_row(form.entries, form.entries, 4), value)


def klein_kind(form):
    """The kind of a form by its fourth laying."""
    need_fourth(form)
    told = klein_told(form.entries)
    return "other" if told is None else told[0]
