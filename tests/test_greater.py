import unittest
from itertools import combinations

from sourceforms import errors
from sourceforms.count.boxes import covariant_count
from sourceforms.errors import InvalidForm, InvalidRows
from sourceforms.form.forms import Form
from sourceforms.form.layings import laid
from sourceforms.sums.sums import Sum
from sourceforms.system import greater as module
from sourceforms.system.greater import is_product_base, keys_of, member_marks, product_at, product_base
from sourceforms.system.greater import told_at, told_rows
from tests.support import CUBIC, LET, LONG, NO_INTEGERS, NO_TUPLES, QUAD, SIX, Case, picker, rank_of
from tests.support import some_form, some_table
from tests.test_sources import NO_FORMS

NAMES = {**vars(errors), **vars(module), "Form": Form, "CUBIC": CUBIC, "SIX": SIX}
SIZES = {5: (1, 2, 2, 3, 3, 3, 4, 4, 4, 5, 5, 5, 6, 6, 7, 7, 8, 8, 9)}
ORDERS = {5: (5, 2, 6, 3, 5, 9, 0, 4, 6, 1, 3, 7, 2, 4, 1, 5, 0, 2, 3)}
TEXTS = {
    5: """(0, 0, 4), (0, 0, 2), (0, 1, 2), (0, 1, 1), (0, 2, 1), (0, 4, 5), (0, 3, 2), (0, 3, 1), (0, 7, 4),
   (0, 7, 3), (0, 7, 1), (0, 10, 3), (0, 9, 1), (0, 13, 4), (0, 12, 1), (0, 15, 5), (0, 15, 4), (0, 17, 2)""",
    6: """(0, 0, 6), (0, 0, 4), (0, 0, 2), (0, 2, 4), (0, 2, 2), (0, 2, 1), (0, 3, 1), (0, 5, 6), (0, 4, 2),
   (0, 4, 1), (0, 5, 1), (0, 9, 4), (0, 9, 3), (0, 9, 1), (2, 9, 4), (0, 12, 1), (0, 13, 2), (0, 16, 5), (0, 16, 4)""",
}
MANY = {5: 19, 6: 20}
MOST = {5: 9, 6: 7}
NO_DEGREES = NO_INTEGERS + (0, 4, 7, -5)


def unit(many, *places):
    return tuple(places.count(k) for k in range(many))


def all_keys(degree, size, order):
    """All keys of a size and an order, ascending, member by member."""
    marks = member_marks(degree)

    def rest(place, left, wide):
        if place == len(marks):
            return [()] if left == wide == 0 else []
        found = []
        for often in range(left // marks[place][0] + 1):
            for tail in rest(place + 1, left - often * marks[place][0], wide - often * marks[place][1]):
                found.append((often,) + tail)
        return found
    return rest(0, size, order)


def rank_of_products(degree, keys, seed=0):
    """The rank of the first entries of the products at some forms, a bit more than there are keys."""
    pick = picker(400 + seed)
    forms = [some_form(pick, degree, 3) for _ in range(len(keys) + 4)]
    members = [[member.entries[0] for member in told_at(form)] for form in forms]
    rows = []
    for key in keys:
        row = []
        for entries in members:
            worth = 1
            for often, entry in zip(key, entries):
                worth *= entry ** often
            row.append(worth)
        rows.append(row)
    return rank_of(rows)


class Told(Case, unittest.TestCase):
    def test_constants(self):
        self.assertEqual((module.MOST_SIZES, module.MOST_ORDER), ({5: 9, 6: 7}, 12))

    def test_rows(self):
        for degree, text in TEXTS.items():
            self.assertEqual(told_rows(degree), eval(f"({text})"))

    def test_marks(self):
        self.assertEqual(member_marks(5), tuple(zip(SIZES[5], ORDERS[5])))
        marks = [(1, 6)]
        for i, j, k in told_rows(6):
            marks.append((marks[i][0] + marks[j][0], marks[i][1] + marks[j][1] - 2 * k))
        self.assertEqual(member_marks(6), tuple(marks))
        self.assertEqual([(at, size) for at, (size, order) in enumerate(marks) if order == 0], [(1, 2), (8, 4), (15, 6)])

    def test_members(self):
        pick = picker(401)
        for degree in (5, 6):
            for most in (0, 1, 5, LET):
                form = some_form(pick, degree, most)
                members = [form]
                for i, j, k in told_rows(degree):
                    members.append(laid(members[i], members[j], k))
                self.assertEqual(told_at(form), tuple(members))
                self.assertEqual([member.degree for member in members], [order for _, order in member_marks(degree)])

    def test_changed_members(self):
        pick = picker(402)
        for degree in (5, 6):
            form, table = some_form(pick, degree, 3), some_table(pick, 3)
            t = table[0][0] * table[1][1] - table[0][1] * table[1][0]
            for one, other, (size, order) in zip(told_at(form), told_at(form.changed(table)), member_marks(degree)):
                factor = t ** ((degree * size - order) // 2)
                self.assertEqual(other.entries, tuple(factor * entry for entry in one.changed(table)))

    def test_refuses(self):
        for value in NO_DEGREES:
            self.refuses_number(value, told_rows, value)
            self.refuses_number(value, member_marks, value)
        for value in NO_FORMS + (CUBIC, QUAD, Form((1,)), Form((1,) * 8), Form((0,) * 5)):
            self.refuses(InvalidForm, {}, told_at, value)


class Keys(Case, unittest.TestCase):
    def test_all(self):
        for degree in (5, 6):
            for size in range(MOST[degree] + 1):
                for order in range(13):
                    self.assertEqual(list(keys_of(degree, size, order)), all_keys(degree, size, order))
        self.assertEqual(list(keys_of(5, 0, 0)), [(0,) * 19])
        self.assertEqual(list(keys_of(6, 0, 1)), [])

    def test_products(self):
        pick = picker(403)
        for degree in (5, 6):
            form = some_form(pick, degree, 3)
            members = told_at(form)
            for size in range(MOST[degree] + 1):
                for key in all_keys(degree, size, 12 - size) + all_keys(degree, size, size):
                    wanted = Form((1,))
                    for often, member in zip(key, members):
                        for _ in range(often):
                            wanted = wanted * member
                    self.assertEqual(product_at(form, key), wanted)
        self.assertEqual(product_at(SIX, (0,) * 20), Form((1,)))
        self.assertEqual(product_at(SIX, unit(20, 0, 0)), SIX * SIX)
        self.assertEqual(product_at(Form((0,) * 6), unit(19, 0)), Form((0,) * 6))

    def test_refuses(self):
        for value in NO_DEGREES:
            self.refuses_number(value, next, keys_of(value, 10, None))
            self.refuses_number(value, product_base, value, None, 2)
            self.refuses_number(value, is_product_base, value, 2, 2, ())
        for degree in (5, 6):
            for value in NO_INTEGERS + (-1, MOST[degree] + 1):
                self.refuses_number(value, next, keys_of(degree, value, 13))
                self.refuses_number(value, product_base, degree, value, -1)
                self.refuses_number(value, is_product_base, degree, value, None, ())
            for value in NO_INTEGERS + (-1, 13):
                self.refuses_number(value, list, keys_of(degree, 2, value))
                self.refuses_number(value, product_base, degree, 2, value)
                self.refuses_number(value, is_product_base, degree, 2, value, ())
        for value in NO_FORMS + (CUBIC, Form((1,) * 8)):
            self.refuses(InvalidForm, {}, product_at, value, None)
        zeros = (0,) * 18
        for value in NO_TUPLES + ((), (0,) * 19, (0,) * 21, (1, True) + zeros, (1, False) + zeros, (1, None) + zeros,
                                  (1, -1) + zeros, (1, "0") + zeros, [1, 0] + [0] * 18, (LONG, 0) + zeros, (LET, 0) + zeros,
                                  (0, 4) + zeros, (3, 0) + zeros, unit(20, 5, 6), unit(20, 0, 3)):
            self.refuses(InvalidRows, {}, product_at, SIX, value)
        five = Form((1, 0, 0, 0, 1, 0))
        for value in ((0,) * 18, (0,) * 20, unit(19, 6, 6, 1), unit(19, 5, 1, 9), unit(19, 18, 0), unit(19, 5, 11), unit(19, 0, 0, 4)):
            self.refuses(InvalidRows, {}, product_at, five, value)
        self.assertEqual(product_at(five, unit(19, 18)).degree, 3)
        self.assertEqual(product_at(five, unit(19, 5, 3)).degree, 12)
        self.assertEqual((product_at(SIX, unit(20, 1, 1, 1, 0)).degree, product_at(SIX, unit(20, 5, 5)).degree), (6, 12))


class Bases(Case, unittest.TestCase):
    def test_all(self):
        for degree in (5, 6):
            for size in range(MOST[degree] + 1):
                for order in range(13):
                    base = product_base(degree, size, order)
                    many = covariant_count(degree, size, order)
                    self.assertEqual((len(base), list(base)), (many, sorted(set(base))))
                    self.assertLessEqual(set(base), set(all_keys(degree, size, order)))
                    self.assertEqual(rank_of_products(degree, base), many)
                    self.assertIs(is_product_base(degree, size, order, base), True)
                    for value in (base[1:], base + base[:1], base[::-1], list(base), base + ((0,) * MANY[degree],)):
                        if value != base:
                            self.assertIs(is_product_base(degree, size, order, value), False)

    def test_all_choices(self):
        """Each ascending choice of as many keys is judged by the rank of its values."""
        seen = {True: 0, False: 0}
        for degree, size, order in ((5, 6, 6), (5, 6, 10), (5, 6, 12), (5, 7, 9), (5, 8, 10), (5, 9, 7), (6, 6, 8),
                                    (6, 6, 10), (6, 7, 6), (6, 6, 12)):
            keys = all_keys(degree, size, order)
            many = covariant_count(degree, size, order)
            for at, choice in enumerate(combinations(keys, many)):
                if at % (1 if len(keys) < 9 else 9) == 0:
                    right = rank_of_products(degree, choice, at) == many
                    self.assertIs(is_product_base(degree, size, order, choice), right)
                    seen[right] += 1
        self.assertTrue(seen[True] > 20 and seen[False] > 20, seen)

    def test_any_value_is_judged(self):
        one = unit(19, 2)
        for value in NO_TUPLES + ((), (one, one), one, (one[:-1],), (one + (0,),), ((1,) + one[1:],), (list(one),), [one],
                                  (None,), (True,), ("a",), (one[:2] + (True,) + one[3:],), (one[:-1] + (False,),),
                                  (one[:2] + (-1,) + one[3:],), ((10 ** 99,) * 19,), ((-10 ** 99,) * 19,), (QUAD,), {one: 1},
                                  (unit(19, 1),), (one[:3] + ("0",) + one[4:],), (((),) * 19,)):
            self.assertIs(is_product_base(5, 2, 6, value), False)
        self.assertIs(is_product_base(5, 2, 6, (one,)), True)
        self.assertIs(is_product_base(5, 2, 5, ()), True)
        self.assertIs(is_product_base(5, 0, 0, ((0,) * 19,)), True)
        for value in NO_TUPLES + (((0,) * 19,), ((),)):
            self.assertIs(is_product_base(5, 2, 5, value), False)

    def test_what_is_not_true(self):
        keys = all_keys(5, 6, 10)
        self.assertGreater(len(keys), covariant_count(5, 6, 10))
        form = Form((1, 0, 0, 1, 0, 0))
        self.assertTrue(told_at(form)[6].is_zero and told_at(form)[16].is_zero)
        self.assertEqual(form.times_at((0, 1)), 2)
        self.assertEqual(told_at(Form((1, 0, 0, 0, 0, 0, 1)))[1], Form((2 * 720 * 720,)))


class Examples(Case, unittest.TestCase):
    def test_document(self):
        self.run_examples("""
5: (0, 0, 4), (0, 0, 2), (0, 1, 2), (0, 1, 1), (0, 2, 1), (0, 4, 5), (0, 3, 2), (0, 3, 1), (0, 7, 4),
   (0, 7, 3), (0, 7, 1), (0, 10, 3), (0, 9, 1), (0, 13, 4), (0, 12, 1), (0, 15, 5), (0, 15, 4), (0, 17, 2)
6: (0, 0, 6), (0, 0, 4), (0, 0, 2), (0, 2, 4), (0, 2, 2), (0, 2, 1), (0, 3, 1), (0, 5, 6), (0, 4, 2),
   (0, 4, 1), (0, 5, 1), (0, 9, 4), (0, 9, 3), (0, 9, 1), (2, 9, 4), (0, 12, 1), (0, 13, 2), (0, 16, 5), (0, 16, 4)
>>> [row.entries for row in told_at(Form((1, 0, 0, 0, 1, 0)))[:7]]
[(1, 0, 0, 0, 1, 0), (5760, 0, 0), (0, 0, 480, 0, 0, 0, -32), (0, 0, 138240, 0), (0, 0, 0, -46080, 0, 0), (0, 4800, 0, 0, 0, -7680, 0, 0, 0, -192), (0,)]
>>> [told_at(Form((1, 0, 0, 0, 1, 0)))[16].entries, told_at(SIX)[1].entries, told_at(SIX)[2].is_zero, member_marks(6)[:4], len(told_rows(6))]
[(-26418075402240000,), (172800,), True, ((1, 6), (2, 0), (2, 4), (2, 8)), 19]
>>> [[key[:3] for key in keys_of(6, 2, 0)], [key[:3] for key in keys_of(5, 2, 6)], len(list(keys_of(5, 4, 4))), len(product_base(5, 4, 4))]
[[(0, 1, 0)], [(0, 0, 1)], 2, 2]
>>> product_at(SIX, (0, 2) + (0,) * 18).entries
(29859840000,)
>>> told_at(CUBIC)
raises InvalidForm
""", NAMES)

    def test_places(self):
        for call in (told_rows, told_at, member_marks, keys_of, product_at, product_base, is_product_base):
            self.assertEqual(call.__module__, "sourceforms.system.greater")


if __name__ == "__main__":
    unittest.main()
