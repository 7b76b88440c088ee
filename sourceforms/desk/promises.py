"""Promises about forms that are kept under names: which tuples are promises, and whether they are true."""

from sourceforms.base.helper import is_point, is_within
from sourceforms.fall.worst import fall_kind
from sourceforms.form.forms import MAX_DEGREE, factor_between, row_value
from sourceforms.form.layings import laid
from sourceforms.mirror.klein import line_told
from sourceforms.power.killers import does_kill

MOST_LETTERS = 8

LETTERS = "abcdefghijklmnopqrstuvwxyz"

# What stands behind each word of a promise: names of forms, a point, or how often a laying is taken.
SHAPES = {
    "root": ("name", "point"),
    "falls": ("name",),
    "power": ("name",),
    "like": ("name", "name"),
    "laid": ("name", "name", "times", "name"),
    "kills": ("name", "name"),
}


def is_name(value):
    """Whether the value is a string of one to eight letters from a to z."""
    return isinstance(value, str) and 1 <= len(value) <= MOST_LETTERS and all([sign in LETTERS for sign in value])


def is_part(value, kind):
    """Whether the value can stand in a promise where a kind is wanted."""
    if kind == "name":
        return is_name(value)
    if kind == "point":
        return is_point(value)
    return is_within(value, 0, MAX_DEGREE)


def is_promise(value):
    """Whether the value is a promise."""
    if not isinstance(value, tuple) or len(value) == 0 or not isinstance(value[0], str) or value[0] not in SHAPES:
        return False
    shape = SHAPES[value[0]]
    if len(value) != len(shape) + 1:
        return False
    return all([is_part(part, kind) for part, kind in zip(value[1:], shape)])


def names_in(promise):
    """The names in a promise, in its order."""
    return [part for part, kind in zip(promise[1:], SHAPES[promise[0]]) if kind == "name"]


def has_root(form, point):
    """Whether a form is no zero form, and has a point as a root."""
    return not form.is_zero and row_value(form.entries, point[0], point[1]) == 0


def does_fall(form):
    """Whether a form other than 0 of a degree of at least 1 has a root more than half as often as its degree."""
    return not form.is_zero and form.degree > 0 and fall_kind(form) == "falls"


def is_power(form):
    """Whether a form other than 0 of a degree of at least 1 is a number times a power of one line."""
    return not form.is_zero and form.degree > 0 and line_told(form.entries) is not None


def is_laying(one, other, times, form):
    """Whether the laying of two forms is there, and a form is a multiple of it other than 0."""
    if times > min(one.degree, other.degree) or one.degree + other.degree - 2 * times > MAX_DEGREE:
        return False
    return factor_between(laid(one, other, times), form) is not None


def is_true(promise, forms):
    """Whether a promise is true for the dict from names to forms."""
    names = names_in(promise)
    if not all([name in forms for name in names]):
        return False
    word, first, last = promise[0], forms[names[0]], forms[names[-1]]
    if word == "root":
        return has_root(first, promise[2])
    if word == "falls":
        return does_fall(first)
    if word == "power":
        return is_power(first)
    if word == "like":
        return factor_between(first, last) is not None
    if word == "laid":
        return is_laying(first, forms[names[1]], promise[3], last)
    return first.degree <= last.degree and does_kill(first, last)
