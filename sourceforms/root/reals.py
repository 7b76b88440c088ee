"""Real roots: how many there are, where they are, and forms without any."""

from sourceforms.base.helper import content_of, is_same, is_whole_ratio, lead_of, sign_of
from sourceforms.base.ratios import need_ratio, reduced
from sourceforms.errors import InvalidOperation, TooMany
from sourceforms.form.divisors import plain_part_row, rest_row
from sourceforms.form.forms import need_form, row_value

MAX_SPANNED = 12
MAX_DIGITS = 20

# The least integers above 0 that have more than 20 and more than 400 digits.
TOO_WIDE = 10 ** 20
TOO_FAR = (10 ** 50) ** 8


def need_other_than_zero(form):
    """Refuse a zero form."""
    if form.is_zero:
        raise InvalidOperation("a form other than 0 is wanted")


def signed_primitive(row):
    """A row other than zeros, divided by its content, so that all signs stay."""
    content = content_of(row)
    return tuple([number // content for number in row])


def sign_rows(row):
    """The sign row of a form other than 0, in a list."""
    plain = plain_part_row(row)
    first = plain[lead_of(plain):]
    found = [first]
    degree = len(first) - 1
    newer = signed_primitive([entry * (degree - place) for place, entry in enumerate(first[:-1])]) if degree > 0 else ()
    while len(newer) > 0:
        found.append(newer)
        newer = tuple([-number for number in rest_row(found[-2], newer)])
    return found


def changes_of(signs):
    """How often the sign changes along a row of numbers, zeros left out."""
    left = [sign for sign in signs if sign != 0]
    return len([place for place in range(1, len(left)) if left[place - 1] * left[place] < 0])


def changes_at(rows, ratio):
    """How often the sign changes along a sign row at a ratio."""
    return changes_of([sign_of(row_value(row, ratio[0], ratio[1])) for row in rows])


def finite_count(rows):
    """How many different real roots a sign row tells: its changes far below, less those far above."""
    above = [sign_of(row[0]) for row in rows]
    below = [-sign_of(row[0]) if len(row) % 2 == 0 else sign_of(row[0]) for row in rows]
    return changes_of(below) - changes_of(above)


def distinct_count(form):
    """The number of the different roots over the complex numbers."""
    need_form(form)
    need_other_than_zero(form)
    return len(plain_part_row(form.entries)) - 1


def real_count(form):
    """The number of the different real roots, with the end."""
    need_form(form)
    need_other_than_zero(form)
    end = 1 if form.entries[0] == 0 else 0
    return finite_count(sign_rows(form.entries)) + end


def sign_row(form):
    """The sign row of a form."""
    need_form(form)
    need_other_than_zero(form)
    return tuple(sign_rows(form.entries))


def sign_changes(form, ratio):
    """How often the sign changes along the sign row at a ratio."""
    need_form(form)
    need_ratio(ratio)
    need_other_than_zero(form)
    return changes_at(sign_rows(form.entries), ratio)


def is_below(one, other):
    """Whether a ratio is less than another one."""
    return one[0] * other[1] < other[0] * one[1]


def count_in(rows, low, high):
    """How many different real roots a sign row tells above a ratio and up to a greater one."""
    return changes_at(rows, low) - changes_at(rows, high)


def count_between(form, low, high):
    """How many different real roots there are above a ratio and up to another one."""
    need_form(form)
    need_ratio(low)
    need_ratio(high)
    if not is_below(low, high):
        raise InvalidOperation("the first ratio must be below the second one")
    need_other_than_zero(form)
    return count_in(sign_rows(form.entries), low, high)


def need_spanned(form):
    """Refuse what is no form whose roots can be told by spans."""
    need_form(form)
    need_other_than_zero(form)
    if form.degree > MAX_SPANNED:
        raise TooMany(MAX_SPANNED)
    if any([abs(entry) >= TOO_WIDE for entry in form.entries]):
        raise TooMany(MAX_DIGITS)


def bound_of(row):
    """An integer above all real roots of a polynomial and their opposites, by Cauchy."""
    return max([abs(number) for number in row]) // abs(row[0]) + 2


def spans(form):
    """Pairs of ratios, ascending, each with just one real root above the first and up to the second one."""
    need_spanned(form)
    rows = sign_rows(form.entries)
    # Halves of halves have the shortest bottoms if the first span is from a power of 2 to its opposite.
    most = 1 << bound_of(rows[0]).bit_length()
    left = [((-most, 1), (most, 1))]
    found = []
    while len(left) > 0:
        low, high = left.pop()
        many = count_in(rows, low, high)
        if many == 1:
            found.append((low, high))
        if many > 1:
            middle = reduced(low[0] * high[1] + high[0] * low[1], 2 * low[1] * high[1])
            left.append((middle, high))
            left.append((low, middle))
    return tuple(found)


def is_span(value):
    """Whether the value is a pair of ratios of any length, the first one below the second one."""
    if not isinstance(value, tuple) or len(value) != 2:
        return False
    return all([is_whole_ratio(ratio) for ratio in value]) and is_below(value[0], value[1])


def are_spans(form, value):
    """Whether the value is a tuple of spans of all real roots but the end."""
    need_spanned(form)
    if not isinstance(value, tuple) or not all([is_span(span) for span in value]):
        return False
    if any([is_below(value[place][0], value[place - 1][1]) for place in range(1, len(value))]):
        return False
    rows = sign_rows(form.entries)
    return len(value) == finite_count(rows) and all([count_in(rows, low, high) == 1 for low, high in value])


def root_span(rows):
    """A span with a real root that a sign row tells, which has one; with short integers where there are such."""
    bound = bound_of(rows[0])
    near = TOO_FAR - 1
    if bound > near and count_in(rows, (-near, 1), (near, 1)) > 0:
        bound = near
    return ((-bound, 1), (bound, 1))


def definite_paper(form):
    """A paper on whether a form is definite: its sign, the end, or where a real root is."""
    need_form(form)
    need_other_than_zero(form)
    if form.entries[0] == 0:
        return ("end",)
    rows = sign_rows(form.entries)
    if finite_count(rows) == 0:
        return ("sign", sign_of(form.entries[0]))
    low, high = root_span(rows)
    return ("root", low, high)


def is_definite_paper(form, value):
    """Whether the value is a right paper on whether a form is definite."""
    need_form(form)
    need_other_than_zero(form)
    first = form.entries[0]
    if is_same(value, ("end",)):
        return first == 0
    if not isinstance(value, tuple) or len(value) < 2:
        return False
    if is_same(value, ("sign", sign_of(first))):
        return first != 0 and finite_count(sign_rows(form.entries)) == 0
    if not is_same(value[0], "root") or not is_span(value[1:]):
        return False
    return count_in(sign_rows(form.entries), value[1], value[2]) > 0
