"""The systems of the degrees 5 and 6: the told rows, products of members, and bases of such products."""

from sourceforms.base.helper import lead_of, need_number, primitive_row
from sourceforms.count.boxes import covariant_count
from sourceforms.errors import InvalidForm, InvalidRows
from sourceforms.form.forms import Form, made_form, product_row
from sourceforms.form.layings import run_rows
from sourceforms.sums.sources import sources_of_rows
from sourceforms.system.members import are_powers, mark_of, marks_of, powers_with, product_by

MOST_SIZES = {5: 9, 6: 7}
MOST_ORDER = 12

LEAST = 5
MOST = 6

ROWS = {
    5: (
        (0, 0, 4), (0, 0, 2), (0, 1, 2), (0, 1, 1), (0, 2, 1), (0, 4, 5), (0, 3, 2), (0, 3, 1), (0, 7, 4),
        (0, 7, 3), (0, 7, 1), (0, 10, 3), (0, 9, 1), (0, 13, 4), (0, 12, 1), (0, 15, 5), (0, 15, 4), (0, 17, 2),
    ),
    6: (
        (0, 0, 6), (0, 0, 4), (0, 0, 2), (0, 2, 4), (0, 2, 2), (0, 2, 1), (0, 3, 1), (0, 5, 6), (0, 4, 2),
        (0, 4, 1), (0, 5, 1), (0, 9, 4), (0, 9, 3), (0, 9, 1), (2, 9, 4), (0, 12, 1), (0, 13, 2), (0, 16, 5),
        (0, 16, 4),
    ),
}


def told_rows(degree):
    """The told rows of the degree 5 or 6."""
    need_number(degree, LEAST, MOST)
    return ROWS[degree]


def need_told(form):
    """Refuse what is no form of the degree 5 or 6."""
    if not isinstance(form, Form) or not LEAST <= form.degree <= MOST:
        raise InvalidForm("a form of the degree 5 or 6 is wanted")


def told_at(form):
    """The forms of all members, the form itself first."""
    need_told(form)
    return run_rows(ROWS[form.degree], form)


def member_marks(degree):
    """The pairs (size, order) of all members."""
    need_number(degree, LEAST, MOST)
    return marks_of(degree, ROWS[degree])


def need_mark(degree, size, order):
    """Refuse a degree, a size or an order beyond the told ones."""
    need_number(degree, LEAST, MOST)
    need_number(size, 0, MOST_SIZES[degree])
    need_number(order, 0, MOST_ORDER)


def keys_of(degree, size, order):
    """All keys of the size and the order, ascending."""
    need_mark(degree, size, order)
    for key in powers_with(size, order, member_marks(degree)):
        yield key


def product_at(form, key):
    """The product of a key for a form."""
    need_told(form)
    marks = member_marks(form.degree)
    if not are_powers(key, len(marks)):
        raise InvalidRows("a key for the degree of the form is wanted")
    size, order = mark_of(key, marks)
    if size > MOST_SIZES[form.degree] or order > MOST_ORDER:
        raise InvalidRows("the size or the order of the key is too great")
    entries = (1,)
    for often, member in zip(key, told_at(form)):
        for _ in range(often):
            entries = product_row(entries, member.entries)
    return made_form(entries)


def plain_sources(degree):
    """The sources of all members without the terms that have c1 as a factor.

    A source without such terms is 0 only if it was, since its other terms tell it; so these tell as much.
    """
    found = []
    for source in sources_of_rows(degree, ROWS[degree]):
        terms = source.terms
        found.append({exponents: terms[exponents] for exponents in terms if exponents[1] == 0})
    return found


def rows_of_keys(degree, keys):
    """A row of integers for each key, multiples and sums of which are 0 exactly if those of the products are."""
    sources = plain_sources(degree)
    products = [product_by(key, sources) for key in keys]
    places = {}
    for terms in products:
        for exponents in terms:
            places[exponents] = True
    order = sorted(places)
    return [[terms.get(exponents, 0) for exponents in order] for terms in products]


def left_behind(row, base):
    """What is left of a row, but for a factor, when multiples of the rows of a base are taken off."""
    left = row
    for other in base:
        lead = lead_of(other)
        if left[lead] != 0:
            left = primitive_row([other[lead] * a - left[lead] * b for a, b in zip(left, other)])
    return left


def free_places(rows, most):
    """The places of the first rows, up to so many, none of which is a sum of multiples of those ahead of it."""
    base = []
    found = []
    for place, row in enumerate(rows):
        if len(found) < most:
            left = left_behind(row, base)
            if lead_of(left) is not None:
                base.append(left)
                found.append(place)
    return found


def product_base(degree, size, order):
    """A base for the size and the order: an ascending tuple of keys."""
    need_mark(degree, size, order)
    keys = powers_with(size, order, member_marks(degree))
    places = free_places(rows_of_keys(degree, keys), covariant_count(degree, size, order))
    return tuple([keys[place] for place in places])


def is_product_base(degree, size, order, value):
    """Whether the value is a base for the size and the order."""
    need_mark(degree, size, order)
    marks = member_marks(degree)
    many = covariant_count(degree, size, order)
    if not isinstance(value, tuple) or len(value) != many:
        return False
    if not all([are_powers(key, len(marks)) and mark_of(key, marks) == (size, order) for key in value]):
        return False
    if not all([value[index - 1] < value[index] for index in range(1, many)]):
        return False
    return len(free_places(rows_of_keys(degree, value), many)) == many
