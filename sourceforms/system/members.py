"""What the systems of all degrees share: sizes and orders of members, and the products of their sources."""

from sourceforms.base.helper import is_whole
from sourceforms.sums.sources import row_orders, row_sizes
from sourceforms.sums.sums import product_terms


def marks_of(degree, rows):
    """The pairs (size, order) of all members that a row list tells."""
    return tuple(zip(row_sizes(rows), row_orders(degree, rows)))


def are_powers(value, many):
    """Whether the value is a tuple of so many integers of at least 0, of any length."""
    if not isinstance(value, tuple) or len(value) != many:
        return False
    return all([is_whole(often) and often >= 0 for often in value])


def mark_of(powers, marks):
    """The size and the order of a product of members, each taken so often."""
    size = sum([often * mark[0] for often, mark in zip(powers, marks)])
    order = sum([often * mark[1] for often, mark in zip(powers, marks)])
    return (size, order)


def reached_behind(size, order, marks):
    """For each place the dict of the sizes and orders, up to the told ones, of products of members from there on."""
    found = [{(0, 0): True}]
    for heavy, wide in reversed(marks):
        grown = {}
        for start in list(found[-1]):
            left, rest = start
            while left <= size and rest <= order:
                grown[(left, rest)] = True
                left, rest = left + heavy, rest + wide
        found.append(grown)
    return found[::-1]


def powers_with(size, order, marks):
    """The list of all powers with a size and an order, ascending."""
    reached = reached_behind(size, order, marks)
    found = [()] if (size, order) in reached[0] else []
    for place, mark in enumerate(marks):
        longer = []
        for head in list(found):
            used = mark_of(head, marks)
            left, rest = size - used[0], order - used[1]
            for often in range(left // mark[0] + 1):
                if (left - often * mark[0], rest - often * mark[1]) in reached[place + 1]:
                    longer.append(head + (often,))
        found = longer
    return found


def product_by(powers, sources):
    """The terms of a product of sources, each told by its terms and taken so often."""
    width = len(list(sources[0])[0])
    found = {(0,) * width: 1}
    for often, terms in zip(powers, sources):
        for _ in range(often):
            found = product_terms(found, terms)
    return found
