import unittest
from itertools import combinations_with_replacement, islice
from math import comb
from time import process_time

from sourceforms import errors
from sourceforms.count import boxes as module
from sourceforms.count.boxes import box_count, box_row, boxes, count_row, covariant_count, left_box, turned_box
from sourceforms.errors import InvalidOperation
from sourceforms.sums.sums import Sum
from tests.support import NO_INTEGERS, NO_TUPLES, Case, picker
from tests.test_sums import all_exponents
from tests.test_tables import reckoned_echelon

SMALL = NO_INTEGERS + (-1, 41)
GREAT = NO_INTEGERS + (-1, 1601)
NO_BOXES = NO_TUPLES + (
    (0,), (3, 0), (-1,), (1, 2), (3, 1, 2), (True,), (2, True), (None,), (2, "1"), ((1,),), (41,), (41, 1), (1,) * 41,
    [3, 1], (10 ** 70,), (2, None),
)


def all_boxes(parts, most):
    """All boxes that fit, from the greatest to the least."""
    found = []
    for members in combinations_with_replacement(range(most, -1, -1), parts):
        found.append(tuple(member for member in members if member))
    return sorted(set(found), reverse=True)


def counted(weight, parts, most, kept={}):
    """The count by the rule with one part less, or one column less."""
    if weight < 0 or weight > parts * most:
        return 0
    if parts == 0 or most == 0:
        return int(weight == 0)
    key = weight, parts, most
    if key not in kept:
        kept[key] = counted(weight, parts - 1, most) + counted(weight - parts, parts, most - 1)
    return kept[key]


def rows_by_rule(most_of_both):
    """All rows of counts, each by P(w; d, n) = P(w; d - 1, n) + P(w - d; d, n - 1)."""
    rows = {}
    for parts in range(most_of_both + 1):
        for most in range(most_of_both + 1):
            row = [1] + [0] * (parts * most)
            if parts and most:
                row = rows[parts - 1, most] + [0] * most
                for weight, number in enumerate(rows[parts, most - 1]):
                    row[weight + parts] += number
            rows[parts, most] = row
    return rows


def row_by_row(parts, most):
    """The row of counts as a product of (1 - t ** (most + k)) / (1 - t ** k), one k behind the other."""
    row = [1]
    for k in range(1, parts + 1):
        longer = []
        for weight in range(k * most + 1):
            number = row[weight] if weight < len(row) else 0
            number -= row[weight - most - k] if 0 <= weight - most - k < len(row) else 0
            longer.append(number + (longer[weight - k] if weight >= k else 0))
        row = longer
    return row


class Counts(Case, unittest.TestCase):
    def test_constants(self):
        self.assertEqual((module.MAX_PARTS, module.MAX_WEIGHT), (40, 1600))

    def test_small_ones(self):
        for parts in range(6):
            for most in range(6):
                rows = [0] * (parts * most + 1)
                for box in all_boxes(parts, most):
                    rows[sum(box)] += 1
                self.assertEqual(box_row(parts, most), tuple(rows))
                for weight in range(parts * most + 9):
                    wanted = rows[weight] if weight < len(rows) else 0
                    self.assertEqual(box_count(weight, parts, most), wanted)

    def test_greater_ones(self):
        for parts, most in ((12, 9), (9, 12), (15, 15), (20, 7)):
            self.assertEqual(box_row(parts, most), tuple(counted(w, parts, most) for w in range(parts * most + 1)))

    def test_rules(self):
        for parts, most in ((40, 40), (40, 1), (1, 40), (0, 40), (40, 0), (0, 0), (17, 33), (33, 17), (39, 40)):
            row = box_row(parts, most)
            self.assertEqual(len(row), parts * most + 1)
            self.assertEqual(row, row[::-1])
            self.assertEqual(row, box_row(most, parts))
            self.assertEqual(sum(row), comb(parts + most, parts))
            for weight in range(1, parts * most // 2 + 1):
                self.assertLessEqual(row[weight - 1], row[weight])
            for weight in (0, 1, len(row) // 2, len(row) - 1):
                if weight < len(row):
                    self.assertEqual(box_count(weight, parts, most), row[weight])
                    if parts and most:
                        less = counted(weight, parts - 1, most) + counted(weight - parts, parts, most - 1)
                        self.assertEqual(row[weight], less)

    def test_great_ones(self):
        """All numbers of parts and greatest parts from 20 to 40, and many weights, by the rule with one part less."""
        rows = rows_by_rule(40)
        pick = picker(901)
        for parts in range(20, 41):
            for most in range(20, 41):
                row = rows[parts, most]
                whole = parts * most
                weights = [0, 1, parts, most, whole // 2, whole // 2 + 1, whole - 1, whole]
                for weight in weights + [pick.randint(0, whole) for _ in range(12)]:
                    self.assertEqual(box_count(weight, parts, most), row[weight])
        for weight in range(1601):
            self.assertEqual(box_count(weight, 40, 40), rows[40, 40][weight])
        for parts, most in ((40, 40), (40, 39), (33, 40), (20, 20), (40, 20), (1, 40), (40, 1), (7, 31), (31, 8), (4, 8), (8, 8)):
            self.assertEqual(box_row(parts, most), tuple(rows[parts, most]))

    def test_many_numbers(self):
        rows = rows_by_rule(40)
        pick = picker(902)
        for _ in range(20000):
            parts, most = pick.randint(0, 40), pick.randint(0, 40)
            weight = pick.randint(0, parts * most + 2)
            row = rows[parts, most]
            self.assertEqual(box_count(weight, parts, most), row[weight] if weight < len(row) else 0)

    def test_time(self):
        """A great count takes far less time than to make the rows of all counts in one part less, one by one."""
        begin = process_time()
        rows = [row_by_row(40, 40) for _ in range(20)]
        between = process_time()
        counts = [box_count(790 + at, 40, 40) for at in range(20)]
        end = process_time()
        self.assertEqual(counts, [row[790 + at] for at, row in enumerate(rows)])
        self.assertLess((end - between) * 4, between - begin)

    def test_edges(self):
        self.assertEqual((box_count(0, 0, 0), box_count(1, 0, 40), box_count(1, 40, 0), box_count(1600, 40, 40)), (1, 0, 0, 1))
        self.assertEqual((box_count(1600, 39, 40), box_count(1600, 1, 1), box_row(0, 40)), (0, 0, (1,)))

    def test_refuses(self):
        for value in GREAT:
            self.refuses_number(value, box_count, value, 2, 3)
            self.refuses_number(value, box_count, value, 41, "a")
        for value in SMALL:
            self.refuses_number(value, box_count, 1, value, 3)
            self.refuses_number(value, box_count, 1, value, -1)
            self.refuses_number(value, box_count, 1, 2, value)
            self.refuses_number(value, box_row, value, 3)
            self.refuses_number(value, box_row, value, None)
            self.refuses_number(value, box_row, 2, value)


class Boxes(Case, unittest.TestCase):
    def test_small_ones(self):
        for parts in range(6):
            for most in range(6):
                rows = all_boxes(parts, most)
                for weight in range(parts * most + 5):
                    self.assertEqual(list(boxes(weight, parts, most)), [box for box in rows if sum(box) == weight])

    def test_edges(self):
        for parts, most in ((0, 0), (0, 5), (5, 0), (40, 40)):
            self.assertEqual(list(boxes(0, parts, most)), [()])
        self.assertEqual(list(boxes(1, 0, 40)) + list(boxes(1, 40, 0)) + list(boxes(1600, 39, 40)), [])
        self.assertEqual(list(boxes(1600, 40, 40)), [(40,) * 40])
        self.assertEqual(list(boxes(40, 40, 1)), [(1,) * 40])
        self.assertEqual(list(boxes(7, 1, 40)), [(7,)])

    def test_in_order_and_all(self):
        for weight, parts, most in ((20, 40, 40), (25, 6, 9), (30, 10, 6), (18, 40, 3), (24, 3, 40)):
            found = list(boxes(weight, parts, most))
            self.assertEqual(found, sorted(set(found), reverse=True))
            self.assertEqual(len(found), box_count(weight, parts, most))
            for box in found:
                self.assertEqual((sum(box), sorted(box, reverse=True)), (weight, list(box)))
                self.assertTrue(len(box) <= parts and all(1 <= member <= most for member in box))

    def test_first_ones_of_very_many(self):
        found = list(islice(boxes(800, 40, 40), 4))
        self.assertEqual(found, [(40,) * 20, (40,) * 19 + (39, 1), (40,) * 19 + (38, 2), (40,) * 19 + (38, 1, 1)])

    def test_refuses_at_the_first_request(self):
        for value in GREAT:
            late = boxes(value, 41, None)
            self.refuses_number(value, next, late)
        for value in SMALL:
            late = boxes(5, value, -1)
            self.refuses_number(value, next, late)
            self.refuses_number(value, next, boxes(5, value, 3))
            self.refuses_number(value, list, boxes(5, 2, value))

    def test_two_go_on_by_themselves(self):
        one, other = boxes(4, 3, 3), boxes(4, 3, 3)
        self.assertEqual([next(one), next(one), next(other), next(one), next(other)],
                         [(3, 1), (2, 2), (3, 1), (2, 1, 1), (2, 2)])
        with self.assertRaises(StopIteration):
            next(one)


class Turned(Case, unittest.TestCase):
    def test_turned(self):
        for box in all_boxes(5, 5):
            turned = turned_box(box)
            self.assertEqual(turned, tuple(sum(member >= k for member in box) for k in range(1, max(box, default=0) + 1)))
            self.assertEqual(sum(turned), sum(box))
            self.assertEqual(turned_box(turned), box)
        self.assertEqual(turned_box((40,) * 40), (40,) * 40)
        self.assertEqual(turned_box((40,)), (1,) * 40)
        self.assertEqual(turned_box((1,) * 40), (40,))

    def test_turned_boxes_are_all(self):
        for weight in range(13):
            found = sorted(turned_box(box) for box in boxes(weight, 3, 4))
            self.assertEqual(found, sorted(boxes(weight, 4, 3)))

    def test_left(self):
        for parts in range(5):
            for most in range(5):
                rows = all_boxes(parts, most)
                for box in rows:
                    left = left_box(box, parts, most)
                    self.assertIn(left, rows)
                    self.assertEqual(sum(left) + sum(box), parts * most)
                    self.assertEqual(left_box(left, parts, most), box)
                    filled = box + (0,) * (parts - len(box))
                    wanted = sorted((most - member for member in filled if member < most), reverse=True)
                    self.assertEqual(left, tuple(wanted))
        self.assertEqual(left_box((), 40, 40), (40,) * 40)
        self.assertEqual(left_box((40,) * 40, 40, 40), ())
        self.assertEqual(left_box((), 0, 0), ())

    def test_refuses(self):
        for value in NO_BOXES:
            self.refuses(InvalidOperation, {}, turned_box, value)
            self.refuses(InvalidOperation, {}, left_box, value, 2, 3)
            self.refuses(InvalidOperation, {}, left_box, value, 41, None)
        for value in SMALL:
            self.refuses_number(value, left_box, (2, 1), value, 3)
            self.refuses_number(value, left_box, (2, 1), value, -1)
            self.refuses_number(value, left_box, (2, 1), 2, value)
            self.refuses_number(value, left_box, (2, 1), 1, value)
        for box, parts, most in (((4,), 2, 3), ((1, 1, 1), 2, 3), ((1,), 0, 3), ((1,), 3, 0), ((40,) * 40, 39, 40)):
            self.refuses(InvalidOperation, {}, left_box, box, parts, most)


class Covariants(Case, unittest.TestCase):
    def test_terms_of_sums(self):
        for degree in range(1, 6):
            for size in range(5):
                for weight in range(degree * size + 1):
                    self.assertEqual(len(all_exponents(degree, size, weight)), box_count(weight, size, degree))

    def test_by_lowered_sums(self):
        """How many sums of a size and weight are 0 when they are lowered, by the rank of lowering."""
        for degree in range(1, 6):
            for size in range(5):
                for weight in range(degree * size + 1):
                    terms = all_exponents(degree, size, weight)
                    below = all_exponents(degree, size, weight - 1) if weight else []
                    rows = [Sum(degree, {key: 1}).lowered().terms for key in terms]
                    lines = [[row.get(key, 0) for key in below] for row in rows]
                    free = len(terms) - (len(reckoned_echelon(lines)) if below else 0)
                    order = degree * size - 2 * weight
                    if order >= 0:
                        self.assertEqual(covariant_count(degree, size, order), free)
                    else:
                        self.assertEqual(free, 0)

    def test_sizes_and_degrees_exchanged(self):
        for degree, size in ((0, 0), (0, 40), (40, 1), (3, 8), (5, 18), (6, 11), (13, 14)):
            total = 0
            for order in range(degree * size + 1):
                number = covariant_count(degree, size, order)
                self.assertEqual(number, covariant_count(size, degree, order))
                total += number * (order + 1)
                if (degree * size - order) % 2:
                    self.assertEqual(number, 0)
            self.assertEqual(total, comb(degree + size, degree))
        for degree, size in ((40, 40), (40, 39), (33, 40)):
            row = box_row(size, degree)
            for weight in (0, 1, 2, 300, degree * size // 2 - 1, degree * size // 2):
                wanted = row[weight] - (row[weight - 1] if weight else 0)
                self.assertEqual(covariant_count(degree, size, degree * size - 2 * weight), wanted)
                self.assertEqual(covariant_count(size, degree, degree * size - 2 * weight), wanted)

    def test_edges(self):
        self.assertEqual([covariant_count(n, 0, 0) for n in (0, 1, 40)], [1, 1, 1])
        self.assertEqual([covariant_count(n, 0, 1) for n in (0, 1, 40)], [0, 0, 0])
        self.assertEqual([covariant_count(0, d, 0) for d in (0, 1, 40)], [1, 1, 1])
        self.assertEqual([covariant_count(n, 1, n) for n in (1, 2, 40)], [1, 1, 1])
        self.assertEqual((covariant_count(40, 40, 1600), covariant_count(40, 40, 1599), covariant_count(40, 39, 1600)), (1, 0, 0))
        self.assertEqual((covariant_count(3, 2, 8), covariant_count(4, 6, 0), covariant_count(4, 7, 0)), (0, 2, 1))

    def test_rows(self):
        for degree, order, sizes in ((0, 0, 5), (5, 0, 18), (6, 2, 15), (40, 8, 40), (3, 1600, 40), (7, 3, 0), (1, 1, 9)):
            row = count_row(degree, order, sizes)
            self.assertEqual(row, tuple(covariant_count(degree, size, order) for size in range(sizes + 1)))

    def test_degree_five(self):
        row = count_row(5, 0, 18)
        self.assertEqual([size for size, number in enumerate(row) if number and size % 4], [18])

    def test_what_is_not_true(self):
        self.assertEqual((covariant_count(4, 6, 0), covariant_count(4, 7, 0)), (2, 1))
        self.assertEqual(box_row(2, 3)[2:5], (2, 2, 2))
        self.assertEqual(left_box((2, 1), 2, 3), (2, 1))
        self.assertEqual(covariant_count(1, 4, 0), 0)

    def test_refuses(self):
        for value in SMALL:
            self.refuses_number(value, covariant_count, value, 2, 3)
            self.refuses_number(value, covariant_count, value, 41, 1601)
            self.refuses_number(value, covariant_count, 2, value, 3)
            self.refuses_number(value, covariant_count, 2, value, -1)
            self.refuses_number(value, count_row, value, 2, 3)
            self.refuses_number(value, count_row, value, None, 41)
            self.refuses_number(value, count_row, 2, 3, value)
        for value in GREAT:
            self.refuses_number(value, covariant_count, 2, 3, value)
            self.refuses_number(value, count_row, 2, value, 3)
            self.refuses_number(value, count_row, 2, value, 41)


class Examples(Case, unittest.TestCase):
    def test_document(self):
        self.run_examples("""
>>> [box_row(2, 3), box_row(3, 2) == box_row(2, 3), box_row(4, 0), box_count(30, 10, 6), box_count(800, 40, 40), box_count(7, 2, 3)]
[(1, 1, 2, 2, 2, 1, 1), True, (1,), 338, 410363630540693436398, 0]
>>> [list(boxes(4, 3, 3)), list(boxes(0, 0, 5)), turned_box((3, 1)), turned_box(()), left_box((3, 1), 2, 3), left_box((), 2, 3), left_box((2, 1), 2, 3)]
[[(3, 1), (2, 2), (2, 1, 1)], [()], (2, 1, 1), (), (2,), (3, 3), (2, 1)]
>>> [count_row(2, 0, 6), count_row(3, 0, 8), count_row(4, 0, 8), count_row(3, 3, 3)]
[(1, 0, 1, 0, 1, 0, 1), (1, 0, 0, 0, 1, 0, 0, 0, 1), (1, 0, 1, 1, 1, 1, 2, 1, 2), (0, 1, 0, 1)]
>>> [covariant_count(5, 18, 0), covariant_count(6, 15, 0), covariant_count(8, 5, 4), covariant_count(5, 8, 4), covariant_count(3, 2, 1), covariant_count(0, 7, 0)]
[1, 1, 4, 4, 0, 1]
>>> left_box((4,), 2, 3)
raises InvalidOperation
""", {**vars(errors), **vars(module)})

    def test_places(self):
        for call in (box_count, box_row, boxes, turned_box, left_box, covariant_count, count_row):
            self.assertEqual(call.__module__, "sourceforms.count.boxes")


if __name__ == "__main__":
    unittest.main()
