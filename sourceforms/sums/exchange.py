"""Sums told by roots, and sums whose sizes and degrees are exchanged."""

from math import comb, factorial, lcm

from sourceforms.base.helper import is_row, need_number, powers_of, primitive_row
from sourceforms.base.ratios import is_integer
from sourceforms.errors import InvalidNumber, InvalidOperation, InvalidSum, TooMany
from sourceforms.form.forms import made_form, product_row
from sourceforms.sums.rooted import Products, expanded, groups_of, indices_of, order_of_work
from sourceforms.sums.sources import need_sum
from sourceforms.sums.sums import MAX_SUMMED, added_terms, made_sum, tidy

MAX_ROOTED = 8

# What `orders_of` takes.
MOST_MEMBERS = 12
MOST_MEMBER = 60


def is_descending(row):
    """Whether each integer is at most the one ahead of it."""
    return all([row[index] <= row[index - 1] for index in range(1, len(row))])


def is_box_of(value, many, most):
    """Whether the value is a box of so many members from 0 to `most`."""
    if not is_row(value) or len(value) != many:
        return False
    return all([0 <= member <= most for member in value]) and is_descending(value)


def count_orders(box):
    """The number of the different tuples with the same integers."""
    found = factorial(len(box))
    for _, often in groups_of(box):
        found = found // factorial(often)
    return found


def orders_of(box):
    """The number of the orders of a tuple of integers that do not ascend."""
    if not isinstance(box, tuple) or len(box) > MOST_MEMBERS or not is_box_of(box, len(box), MOST_MEMBER):
        raise InvalidOperation("a tuple of at most 12 integers from 0 to 60 that do not ascend is wanted")
    return count_orders(box)


def sign_for(weight):
    """The sign that the entries of a form bring along: (-1) ** weight."""
    return 1 if weight % 2 == 0 else -1


def need_rooted(source):
    """Refuse a sum of a size above 8."""
    if not source.is_zero and source.size > MAX_ROOTED:
        raise TooMany(MAX_ROOTED)


def root_terms(source):
    """The dict from boxes to integers that tells a sum by root sums."""
    need_sum(source)
    need_rooted(source)
    if source.is_zero:
        return {}
    order = order_of_work(source.degree)
    row = expanded(source.terms, order, Products(source.degree))
    sign = sign_for(source.weight)
    return tidy({box: sign * row[box] for box in row})


def are_root_terms(value, degree, size):
    """Whether the value is a dict from boxes of one weight to integers other than 0."""
    if not isinstance(value, dict):
        return False
    if not all([is_box_of(box, degree, size) for box in value]):
        return False
    if not all([is_integer(number) and number != 0 for number in value.values()]):
        return False
    weights = [sum(box) for box in value]
    return all([weight == weights[0] for weight in weights])


def term_of(box, size):
    """The exponents of the term whose greatest box this is."""
    steps = [one - other for one, other in zip(box, box[1:] + (0,))]
    return (size - box[0], *steps)


def sum_of_root_terms(degree, size, terms):
    """The sum with these root terms."""
    need_number(degree, 1, MAX_SUMMED)
    need_number(size, 0, MAX_ROOTED)
    if not are_root_terms(terms, degree, size):
        raise InvalidSum("a dict from boxes of one weight to integers other than 0 is wanted")
    products = Products(degree)
    left = tidy(terms)
    found = {}
    while len(left) > 0:
        box = max(list(left))
        exponents = term_of(box, size)
        found[exponents] = left[box] * sign_for(sum(box))
        left = tidy(added_terms(left, products.product_of(indices_of(exponents)), -left[box]))
    return made_sum(degree, found)


def value_by_roots(source, lead, roots):
    """The value of a sum at the form `lead` times the product of x - r y over the roots r."""
    need_sum(source)
    if not is_integer(lead):
        raise InvalidNumber(lead)
    if not is_row(roots) or len(roots) != source.degree:
        raise InvalidOperation("as many integers are wanted as the degree of the sum tells")
    need_rooted(source)
    entries = (lead,)
    for root in roots:
        entries = product_row(entries, (1, -root))
    return source.at(made_form(entries))


def exchanged_terms(terms, degree, size):
    """The exponents for each box, with the pair (top, bottom) of the integer times the orders and the fraction."""
    found = {}
    for box in terms:
        exponents = tuple([box.count(member) for member in range(size + 1)])
        bottom = 1
        for member, often in enumerate(exponents):
            bottom = bottom * powers_of(comb(size, member), often)[often]
        found[exponents] = (terms[box] * count_orders(box), bottom)
    return found


def exchanged(source):
    """The sum for the degree that is the size, of the size that is the degree."""
    need_sum(source)
    if source.is_zero or source.size == 0:
        raise InvalidOperation("a sum other than 0 of a size above 0 is wanted")
    size = source.size
    ratios = exchanged_terms(root_terms(source), source.degree, size)
    keys = sorted(ratios)
    whole = 1
    for key in keys:
        whole = lcm(whole, ratios[key][1])
    row = primitive_row([ratios[key][0] * (whole // ratios[key][1]) for key in keys])
    return made_sum(size, {key: number for key, number in zip(keys, row)})
