"""Boxes, which are partitions, their counts, and the counts of covariants."""

from math import comb

from sourceforms.base.helper import is_within, need_number
from sourceforms.errors import InvalidOperation

MAX_PARTS = 40
MAX_WEIGHT = 1600

# How many counts are cut off at once where all of them are read.
PIECE = 32


def packed_counts(parts, most, top):
    """The pair (integer, width): the integer holds the counts of the boxes that fit, for the weights from 0 to `top`.

    Each count has `width` bits; that of the weight `top` stands lowest, so that what is shifted beyond it is left out.
    The counts are the coefficients of the product of (1 - t ** (high + k)) / (1 - t ** k) over k up to `many`.
    """
    many, high = min(parts, most), max(parts, most)
    # No count here is above the number of all boxes that fit, and none is below 0, so none reaches its neighbour.
    width = comb(many + high, many).bit_length()
    total, reach = 1, 0
    for part in range(1, many + 1):
        longer = min(top, part * high)
        total = total << ((longer - reach) * width)
        reach = longer
        # 1 / (1 - t ** k) is the product of 1 + t ** k, 1 + t ** (2 k), 1 + t ** (4 k), and so on.
        step = part
        while step <= reach:
            total = total + (total >> (step * width))
            step = 2 * step
        total = total - (total >> ((high + part) * width))
    return (total, width)


def lowest_bits(number, width):
    """The integer that the lowest bits tell."""
    return number & ((1 << width) - 1)


def counts_up_to(parts, most, top):
    """The list of the counts of the boxes that fit, for the weights from 0 to `top`."""
    total, width = packed_counts(parts, most, top)
    found = []
    # Cut into longer pieces first, so that few shifts go over the whole integer.
    for begin in range(0, top + 1, PIECE):
        piece = lowest_bits(total >> (begin * width), PIECE * width)
        for place in range(min(PIECE, top + 1 - begin)):
            found.append(lowest_bits(piece >> (place * width), width))
    return found[::-1]


def box_count(weight, parts, most):
    """The number of the boxes of the weight that fit in so many parts up to `most`."""
    need_number(weight, 0, MAX_WEIGHT)
    need_number(parts, 0, MAX_PARTS)
    need_number(most, 0, MAX_PARTS)
    left = parts * most - weight
    if left < 0:
        return 0
    total, width = packed_counts(parts, most, min(weight, left))
    return lowest_bits(total, width)


def box_row(parts, most):
    """The tuple of the numbers of the boxes that fit, for the weights from 0 to parts * most."""
    need_number(parts, 0, MAX_PARTS)
    need_number(most, 0, MAX_PARTS)
    whole = parts * most
    half = counts_up_to(parts, most, whole // 2)
    return tuple([half[min(weight, whole - weight)] for weight in range(whole + 1)])


def filled(weight, most):
    """The greatest box of a weight with members up to `most`."""
    if weight == 0:
        return ()
    rest = weight % most
    return (most,) * (weight // most) + ((rest,) if rest > 0 else ())


def box_behind(box, parts):
    """The greatest box below this one of its weight, in at most so many parts, with no greater members, or None."""
    rest = 0
    for index in range(len(box) - 1, -1, -1):
        rest = rest + 1
        less = box[index] - 1
        if rest <= (parts - index - 1) * less:
            return box[:index] + (less,) + filled(rest, less)
        rest = rest + less
    return None


def boxes(weight, parts, most):
    """All boxes of the weight that fit, from the greatest to the least."""
    need_number(weight, 0, MAX_WEIGHT)
    need_number(parts, 0, MAX_PARTS)
    need_number(most, 0, MAX_PARTS)
    if weight > parts * most:
        return
    box = filled(weight, most)
    while box is not None:
        yield box
        box = box_behind(box, parts)


def is_box(value):
    """Whether the value is a box of at most 40 members, each at most 40."""
    if not isinstance(value, tuple) or len(value) > MAX_PARTS:
        return False
    if not all([is_within(member, 1, MAX_PARTS) for member in value]):
        return False
    return all([value[index] <= value[index - 1] for index in range(1, len(value))])


def need_box(value):
    """Refuse what is no box."""
    if not is_box(value):
        raise InvalidOperation("a box of at most 40 members up to 40 is wanted")


def turned_box(box):
    """The box of how many members are at least k, for each k."""
    need_box(box)
    greatest = max([0, *box])
    return tuple([len([member for member in box if member >= least]) for least in range(1, greatest + 1)])


def left_box(box, parts, most):
    """What is left of a box that fits in so many parts up to `most`."""
    need_box(box)
    need_number(parts, 0, MAX_PARTS)
    need_number(most, 0, MAX_PARTS)
    if len(box) > parts or max([0, *box]) > most:
        raise InvalidOperation("the box does not fit")
    members = (most,) * (parts - len(box)) + tuple([most - member for member in reversed(box)])
    return tuple([member for member in members if member > 0])


def covariant_count(degree, size, order):
    """The number of the covariants of the size and the order that do not hang on one another."""
    need_number(degree, 0, MAX_PARTS)
    need_number(size, 0, MAX_PARTS)
    need_number(order, 0, MAX_WEIGHT)
    return count_of(degree, size, order)


def count_of(degree, size, order):
    """The number of the covariants: the count of the boxes of their weight less that of the weight ahead of it."""
    twice = degree * size - order
    if twice < 0 or twice % 2 != 0:
        return 0
    total, width = packed_counts(size, degree, twice // 2)
    return lowest_bits(total, width) - lowest_bits(total >> width, width)


def count_row(degree, order, sizes):
    """The tuple of the numbers of the covariants of the order, for the sizes from 0 to `sizes`."""
    need_number(degree, 0, MAX_PARTS)
    need_number(order, 0, MAX_WEIGHT)
    need_number(sizes, 0, MAX_PARTS)
    return tuple([count_of(degree, size, order) for size in range(sizes + 1)])
