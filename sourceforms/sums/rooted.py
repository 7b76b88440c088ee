"""Root sums of boxes, multiplied by root sums of ones: what sums of entries are, told by roots.

A dict from boxes to integers stands for the sum of their root sums, each multiplied by its integer. A box has as many
members as there are roots, so it can end with zeros.
"""

from math import comb

from sourceforms.sums.sums import added_terms


def groups_of(box):
    """The pairs (number, how often) of the numbers of a box, from the least number to the greatest."""
    found = []
    for number in reversed(box):
        if len(found) > 0 and found[-1][0] == number:
            found[-1] = (number, found[-1][1] + 1)
        else:
            found.append((number, 1))
    return found


def widened(box, many):
    """The pairs (box, integer) whose sum is the root sum of the box, times that of so many ones.

    Some members are one greater behind it. The integer tells how many orders of such ones make one order of the new
    box: it chooses among its equal members those that have become greater.
    """
    found = [((), many, 0, 1)]
    last = -1
    for number, often in groups_of(box):
        longer = []
        for tail, left, raised, ways in list(found):
            for more in range(min(often, left) + 1):
                stay = often - more
                choice = comb(stay + raised, raised) if number == last + 1 else 1
                members = (number + 1,) * more + (number,) * stay + tail
                longer.append((members, left - more, more, ways * choice))
        found, last = longer, number
    return [(members, ways) for members, left, _, ways in found if left == 0]


class Products:
    """Products of dicts of boxes and root sums of ones; what one box becomes is worked out once."""

    def __init__(self, many):
        self.many = many
        self._widened = {}
        self._products = {}

    def unit(self):
        """The dict for the number 1."""
        return {(0,) * self.many: 1}

    def beyond(self, row, index):
        """The product of a dict and the root sum of so many ones."""
        found = {}
        for box in row:
            key = (box, index)
            if key not in self._widened:
                self._widened[key] = widened(box, index)
            for other, ways in self._widened[key]:
                found[other] = found.get(other, 0) + ways * row[box]
        return found

    def product_of(self, indices):
        """The product of the root sums of ones with these indices, in their order."""
        if len(indices) == 0:
            return self.unit()
        if indices not in self._products:
            self._products[indices] = self.beyond(self.product_of(indices[:-1]), indices[-1])
        return self._products[indices]


def order_of_work(degree):
    """The indices of the entries other than c0, those first whose products have most boxes."""
    return [index for _, index in sorted([(abs(2 * index - degree), index) for index in range(1, degree + 1)])]


def indices_of(exponents):
    """The index of each factor but c0 of a term, in the order of work."""
    found = ()
    for index in order_of_work(len(exponents) - 1):
        found = found + (index,) * exponents[index]
    return found


def expanded(terms, order, products):
    """The dict of boxes for a sum of terms: products of the last indices are added up, before they are multiplied.

    The terms have equal exponents at all indices beyond those of the order of work that are handed on.
    """
    if len(order) == 1:
        total = {}
        for exponents in terms:
            row = products.product_of((order[0],) * exponents[order[0]])
            total = added_terms(total, row, terms[exponents])
        return total
    index = order[-1]
    total = {}
    for often in range(max([exponents[index] for exponents in terms]), -1, -1):
        total = products.beyond(total, index)
        part = {exponents: terms[exponents] for exponents in terms if exponents[index] == often}
        if len(part) > 0:
            total = added_terms(total, expanded(part, order[:-1], products), 1)
    return total
