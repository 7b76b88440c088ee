"""Pencils of forms: all sums of multiples of two forms of one degree."""

from math import isqrt

from sourceforms.base.helper import lead_of
from sourceforms.base.tables import echelon, kernel_rows
from sourceforms.errors import InvalidOperation
from sourceforms.form.forms import Form, derived_row, made_form, multiple_row, need_form, need_point, row_value, sum_row
from sourceforms.form.layings import laid_row, table_of_parts

# So that no laying of two members has a degree above 40.
MOST_SPANNED = 21


def basis_rows(one, other):
    """The basis of a pencil, told by the entries of both forms; shorter if they are multiples."""
    return echelon([one.entries, other.entries])


def need_spanning(one, other):
    """Refuse two forms that span no pencil."""
    if one.degree != other.degree or not 1 <= one.degree <= MOST_SPANNED or len(basis_rows(one, other)) < 2:
        raise InvalidOperation("two forms of one degree from 1 to 21 are wanted that are no multiples")


def need_pencil(one, other):
    """Refuse what are no two forms that span a pencil."""
    need_form(one)
    need_form(other)
    need_spanning(one, other)


def row_of(one, other):
    """The entries of the odd layings of two forms, in a list."""
    return [laid_row(one.entries, other.entries, times) for times in range(1, one.degree + 1, 2)]


def made_forms(rows):
    """The tuple of the forms with these entries."""
    return tuple([made_form(row) for row in rows])


def pencil_row(one, other):
    """The row of two forms: all of their odd layings."""
    need_pencil(one, other)
    return made_forms(row_of(one, other))


def is_pencil_row(one, other, value):
    """Whether the value is the row of two forms, multiplied by one ratio other than 0."""
    need_pencil(one, other)
    rows = row_of(one, other)
    if not isinstance(value, tuple) or len(value) != len(rows):
        return False
    if not all([isinstance(form, Form) and len(form) == len(row) for form, row in zip(value, rows)]):
        return False
    wanted = [entry for row in rows for entry in row]
    given = [entry for form in value for entry in form.entries]
    lead = lead_of(wanted)
    if given[lead] == 0:
        return False
    return all([a * wanted[lead] == b * given[lead] for a, b in zip(given, wanted)])


def pencil_basis(one, other):
    """The basis of the pencil that two forms span."""
    need_pencil(one, other)
    return made_forms(basis_rows(one, other))


def are_one_pencil(one, other, third, last):
    """Whether both pairs of forms span one pencil."""
    need_form(one)
    need_form(other)
    need_form(third)
    need_form(last)
    need_spanning(one, other)
    need_spanning(third, last)
    return basis_rows(one, other) == basis_rows(third, last)


def double_member(one, other, point):
    """The member of a pencil that has a point as a root at least twice, or None."""
    need_form(one)
    need_form(other)
    need_point(point)
    need_spanning(one, other)
    basis = basis_rows(one, other)
    # A root at least twice is a root of both derivatives.
    slopes = []
    for by_x, by_y in ((1, 0), (0, 1)):
        slopes.append([row_value(derived_row(row, by_x, by_y), point[0], point[1]) for row in basis])
    found = kernel_rows(slopes, 2)
    if len(found) == 0:
        return None
    if len(found) == 2:
        return made_form(basis[0])
    a, b = found[0]
    return made_form(sum_row(multiple_row(basis[0], a), multiple_row(basis[1], b))).primitive


def need_degree(form, degree):
    """Refuse what is no form of a degree, other than 0."""
    need_form(form)
    if form.degree != degree or form.is_zero:
        raise InvalidOperation("a form other than 0 of the told degree is wanted")


def pencil_of_square(form):
    """The basis of the pencil whose first laying is a form of the degree 2, up to a factor."""
    need_degree(form, 2)
    a, b, c = form.entries
    # The second laying with the form is 0 exactly at these rows.
    return made_forms(kernel_rows([(2 * c, -b, 2 * a)], 3))


def pencil_by(form, number):
    """The entries of the basis of the pencil that is told by its row, of the degrees 4 and 0."""
    parts = (made_form((0,) * 7), form, made_form((0, 0, 0)), made_form((number,)))
    table, _ = table_of_parts(3, 3, parts)
    return echelon(table)


def pencils_of(form):
    """The bases of all pencils of forms of the degree 3 whose first laying is a form, up to a factor."""
    need_degree(form, 4)
    square = laid_row(form.entries, form.entries, 4)[0]
    if square < 0 or square % 6 != 0:
        return ()
    number = isqrt(square // 6)
    if 6 * number * number != square:
        return ()
    numbers = [0] if number == 0 else [number, -number]
    return tuple([made_forms(rows) for rows in sorted([pencil_by(form, told) for told in numbers])])
