"""Boxes, which are partitions, their counts, and the counts of covariants."""

from sourceforms.base.helper import is_within, need_number
from sourceforms.errors import InvalidOperation

MAX_PARTS = 40
MAX_WEIGHT = 1600


def row_beyond(row, parts, most):
    """The counts of the boxes by weight in so many parts, made of those in one part less.

    The counts are the coefficients of the product of (1 - t ** (most + k)) / (1 - t ** k) over k up to `parts`.
    """
    found = []
    for weight in range(parts * most + 1):
        number = row[weight] if weight < len(row) else 0
        if 0 <= weight - most - parts < len(row):
            number = number - row[weight - most - parts]
        if weight >= parts:
            number = number + found[weight - parts]
        found.append(number)
    return found


def counts_by_weight(parts, most):
    """The list of the counts of the boxes that fit, by weight."""
    row = [1]
    for many in range(1, parts + 1):
        row = row_beyond(row, many, most)
    return row


def rise_at(row, weight):
    """The count at a weight less the one ahead of it."""
    return row[weight] - row[weight - 1] if weight > 0 else row[weight]


def box_count(weight, parts, most):
    """The number of the boxes of the weight that fit in so many parts up to `most`."""
    need_number(weight, 0, MAX_WEIGHT)
    need_number(parts, 0, MAX_PARTS)
    need_number(most, 0, MAX_PARTS)
    if weight > parts * most:
        return 0
    return counts_by_weight(parts, most)[weight]


def box_row(parts, most):
    """The tuple of the numbers of the boxes that fit, for the weights from 0 to parts * most."""
    need_number(parts, 0, MAX_PARTS)
    need_number(most, 0, MAX_PARTS)
    return tuple(counts_by_weight(parts, most))


def filled(weight, most):
    """The greatest box of a weight with members up to `most`."""
    if weight == 0:
        return ()
    rest = weight % most
    return (most,) * (weight // most) + ((rest,) if rest > 0 else ())


def box_behind(box, parts):
    """The greatest box below this one of its weight, in at most so many parts, with no greater members, or None."""
    rest = 0
    for index in range(len(box) - 1, -1, -1):
        rest = rest + 1
        less = box[index] - 1
        if rest <= (parts - index - 1) * less:
            return box[:index] + (less,) + filled(rest, less)
        rest = rest + less
    return None


def boxes(weight, parts, most):
    """All boxes of the weight that fit, from the greatest to the least."""
    need_number(weight, 0, MAX_WEIGHT)
    need_number(parts, 0, MAX_PARTS)
    need_number(most, 0, MAX_PARTS)
    if weight > parts * most:
        return
    box = filled(weight, most)
    while box is not None:
        yield box
        box = box_behind(box, parts)


def is_box(value):
    """Whether the value is a box of at most 40 members, each at most 40."""
    if not isinstance(value, tuple) or len(value) > MAX_PARTS:
        return False
    if not all([is_within(member, 1, MAX_PARTS) for member in value]):
        return False
    return all([value[index] <= value[index - 1] for index in range(1, len(value))])


def need_box(value):
    """Refuse what is no box."""
    if not is_box(value):
        raise InvalidOperation("a box of at most 40 members up to 40 is wanted")


def turned_box(box):
    """The box of how many members are at least k, for each k."""
    need_box(box)
    greatest = max([0, *box])
    return tuple([len([member for member in box if member >= least]) for least in range(1, greatest + 1)])


def left_box(box, parts, most):
    """What is left of a box that fits in so many parts up to `most`."""
    need_box(box)
    need_number(parts, 0, MAX_PARTS)
    need_number(most, 0, MAX_PARTS)
    if len(box) > parts or max([0, *box]) > most:
        raise InvalidOperation("the box does not fit")
    members = (most,) * (parts - len(box)) + tuple([most - member for member in reversed(box)])
    return tuple([member for member in members if member > 0])


def covariant_count(degree, size, order):
    """The number of the covariants of the size and the order that do not hang on one another."""
    need_number(degree, 0, MAX_PARTS)
    need_number(size, 0, MAX_PARTS)
    need_number(order, 0, MAX_WEIGHT)
    return count_of(counts_by_weight(size, degree), order)


def count_of(row, order):
    """The number of the covariants of an order, by the row of the counts of boxes."""
    # The last weight of the row is the degree times the size.
    twice = len(row) - 1 - order
    if twice < 0 or twice % 2 != 0:
        return 0
    return rise_at(row, twice // 2)


def count_row(degree, order, sizes):
    """The tuple of the numbers of the covariants of the order, for the sizes from 0 to `sizes`."""
    need_number(degree, 0, MAX_PARTS)
    need_number(order, 0, MAX_WEIGHT)
    need_number(sizes, 0, MAX_PARTS)
    row = [1]
    found = [count_of(row, order)]
    for size in range(1, sizes + 1):
        row = row_beyond(row, size, degree)
        found.append(count_of(row, order))
    return tuple(found)
