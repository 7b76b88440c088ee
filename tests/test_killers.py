import unittest
from itertools import product
from math import factorial

from sourceforms import errors
from sourceforms.errors import InvalidForm, InvalidOperation, Refused, TooMany
from sourceforms.form.forms import Form, factor_between, line_of
from sourceforms.power import killers as module
from sourceforms.power.killers import does_kill, killed, killed_by, killer_ranks, killers, level_table, two_killers
from tests.support import BENT, CUBIC, FOUR, LET, NO_FORMS, NO_INTEGERS, QUAD, SIX, Case, picker, product_of, rank_of
from tests.support import some_form, some_points, some_table
from tests.test_layings import derived
from tests.test_tables import reckoned_echelon, reckoned_kernel

NAMES = {**vars(errors), **vars(module), "Form": Form, "QUAD": QUAD, "CUBIC": CUBIC, "FOUR": FOUR, "SIX": SIX, "BENT": BENT}
ZEROS = tuple(Form((0,) * many) for many in (1, 2, 3, 6, 41))


def acted(one, form):
    """What comes of a form by derivatives, term by term, as [14.1] tells it."""
    s = one.degree
    total = [0] * (form.degree - s + 1)
    for i, entry in enumerate(one):
        total = [a + entry * b for a, b in zip(total, derived(form.entries, s - i, i))]
    return tuple(total)


def reckoned_levels(form, degree):
    n = form.degree
    levels = [factorial(i) * factorial(n - i) * entry for i, entry in enumerate(form)]
    return tuple(tuple(levels[first:first + degree + 1]) for first in range(n - degree + 1))


def conditions(form, degree):
    """Rows whose products with the entries of a form of the degree are what comes of its acting."""
    columns = [acted(Form(tuple(int(k == i) for k in range(degree + 1))), form) for i in range(degree + 1)]
    return tuple(zip(*columns))


def some_forms(seed, many, most_degree=8):
    """Forms of all kinds: drawn ones, powers, sums of few powers, products, with zeros at both ends."""
    pick = picker(seed)
    found = list(ZEROS[:4]) + [Form((3,)), Form((0, 7)), QUAD, CUBIC, FOUR, SIX, BENT]
    while len(found) < many:
        degree = pick.randint(0, most_degree)
        kind = pick.randint(0, 4)
        if kind == 0:
            form = some_form(pick, degree, pick.choice((1, 9, LET)))
        elif kind == 1:
            form = Form((0,) * (degree + 1))
            for point in some_points(pick, pick.randint(1, 3)):
                form = form + Form.power(point, degree) * pick.randint(-3, 3)
        elif kind == 2:
            form = product_of([line_of(point) for point in some_points(pick, 2) * 3][:degree])
        elif kind == 3:
            form = Form((0,) * (degree // 2) + some_form(pick, degree - degree // 2).entries)
        else:
            form = Form(some_form(pick, degree // 2).entries + (0,) * (degree - degree // 2))
        found.append(form)
    return found


def common_root(one, other):
    """Whether two forms have a common root in some greater field, by the rank of the Sylvester table."""
    if one.is_zero or other.is_zero:
        return True
    m, n = one.degree, other.degree
    rows = [(0,) * i + one.entries + (0,) * (n - 1 - i) for i in range(n)]
    rows += [(0,) * i + other.entries + (0,) * (m - 1 - i) for i in range(m)]
    return rank_of(rows) < m + n


class Levels(Case, unittest.TestCase):
    def test_tables(self):
        for form in some_forms(821, 60):
            for degree in range(form.degree + 1):
                self.assertEqual(level_table(form, degree), reckoned_levels(form, degree))

    def test_greatest(self):
        form = some_form(picker(822), 40, LET)
        for degree in (0, 1, 20, 39, 40):
            table = level_table(form, degree)
            self.assertEqual((len(table), len(table[0])), (41 - degree, degree + 1))
            self.assertEqual(table[-1][-1], factorial(40) * form.entries[-1])

    def test_refuses(self):
        for value in NO_FORMS:
            self.refuses(InvalidForm, {}, level_table, value, 0)
            self.refuses(InvalidForm, {}, level_table, value, None)
        for form in (CUBIC, Form((5,)), Form((0,) * 41)):
            for value in NO_INTEGERS + (-1, form.degree + 1, 41):
                self.refuses_number(value, level_table, form, value)


class Acting(Case, unittest.TestCase):
    def test_by_derivatives(self):
        pick = picker(823)
        for form in some_forms(824, 50):
            for degree in range(form.degree + 1):
                for one in (some_form(pick, degree, 2), Form((0,) * (degree + 1)), Form((1,) + (0,) * degree)):
                    self.assertEqual(killed(one, form).entries, acted(one, form))
                    self.assertIs(does_kill(one, form), not any(acted(one, form)))

    def test_level_entries_tell_killers(self):
        for form in some_forms(825, 40, 6):
            for row in product((-1, 0, 1), repeat=3):
                if form.degree >= 2:
                    wanted = all(sum(a * b for a, b in zip(row, part)) == 0 for part in reckoned_levels(form, 2))
                    self.assertIs(does_kill(Form(row), form), wanted)

    def test_products(self):
        pick = picker(826)
        for form in some_forms(827, 40):
            for degree in range(form.degree + 1):
                for one in killers(form, degree)[:2]:
                    self.assertIs(does_kill(one, form), True)
                    self.assertIs(does_kill(one * some_form(pick, 2), form), True)
            one, other = some_form(pick, 1), some_form(pick, 1)
            if form.degree >= 2:
                self.assertEqual(killed(one * other, form), killed(one, killed(other, form)))

    def test_zero_forms_and_greater_degrees(self):
        for zero in ZEROS:
            for form in (QUAD, Form((5,)), zero):
                self.assertIs(does_kill(zero, form), True)
                self.assertIs(does_kill(form, zero), True)
        for form in (Form((5,)), Form((1, 2)), CUBIC):
            self.assertIs(does_kill(Form((1,) * (form.degree + 2)), form), True)
            self.assertIs(does_kill(Form((1,) * 41), form), True)
            self.assertIs(does_kill(Form((2,)), form), False)

    def test_lines_kill_powers(self):
        pick = picker(828)
        for n in (0, 1, 2, 5, 9):
            for a, b in some_points(pick, 6):
                form = Form.power((a, b), n)
                self.assertIs(does_kill(line_of((a, b)), form), True)
                if n:
                    self.assertIs(does_kill(Form((b, 1 - a)), form), (b, 1 - a) == (0, 0) or a * b + b * (1 - a) == 0)

    def test_changed_forms(self):
        """Killers of a changed form are changed by ((s, -r), (-q, p))."""
        pick = picker(829)
        for form in some_forms(830, 40):
            table = some_table(pick, 3)
            (p, q), (r, s) = table
            if p * s == q * r:
                continue
            other = ((s, -r), (-q, p))
            changed = form.changed(table)
            for degree in range(min(form.degree + 1, 6)):
                made = reckoned_echelon([one.changed(other).entries for one in killers(form, degree)])
                self.assertEqual(tuple(one.entries for one in killers(changed, degree)), made)

    def test_refuses(self):
        for call in (does_kill, killed):
            for value in NO_FORMS:
                self.refuses(InvalidForm, {}, call, value, CUBIC)
                self.refuses(InvalidForm, {}, call, value, None)
                self.refuses(InvalidForm, {}, call, CUBIC, value)
        for one, form in ((FOUR, CUBIC), (QUAD, Form((1, 2))), (Form((0, 0)), Form((0,))), (Form((1,) * 41), Form((1,) * 40))):
            self.refuses(InvalidOperation, {}, killed, one, form)


class Lots(Case, unittest.TestCase):
    def test_ranks(self):
        for form in some_forms(831, 80):
            n = form.degree
            ranks = killer_ranks(form)
            self.assertEqual(ranks, tuple(rank_of(reckoned_levels(form, degree)) for degree in range(n + 1)))
            if form.is_zero:
                self.assertEqual(ranks, (0,) * (n + 1))
                continue
            r = next(degree for degree in range(n + 2) if degree == n + 1 or killers(form, degree))
            self.assertEqual((max(ranks), 1 <= r, 2 * r <= n + 2), (r, True, True))
            self.assertEqual(ranks, tuple(min(s + 1, r, n + 1 - s) for s in range(n + 1)))

    def test_killers(self):
        for form in some_forms(832, 60):
            n = form.degree
            for degree in range(n + 1):
                found = tuple(one.entries for one in killers(form, degree))
                self.assertEqual(found, reckoned_kernel(conditions(form, degree)))
            units = tuple(tuple(int(k == i) for k in range(n + 2)) for i in range(n + 2))
            self.assertEqual(tuple(one.entries for one in killers(form, n + 1)), units)

    def test_edges(self):
        for n in (0, 1, 39, 40):
            zero = Form((0,) * (n + 1))
            for degree in (0, 1, n, n + 1, 40):
                if degree <= min(n + 1, 40):
                    found = killers(zero, degree)
                    self.assertEqual([one.entries.index(1) for one in found], list(range(degree + 1)))
                    self.assertTrue(all(sum(map(abs, one)) == 1 for one in found))
            self.assertEqual(killers(Form((0,) * n + (1,)), 0), ())
        self.assertEqual([tuple(one) for one in killers(Form((3,)), 1)], [(1, 0), (0, 1)])

    def test_greatest(self):
        pick = picker(833)
        form = some_form(pick, 40, LET)
        self.assertEqual(self.soon(4, killer_ranks, form), tuple(min(s + 1, 21, 41 - s) for s in range(41)))
        for degree, many in ((20, 0), (21, 2), (30, 20), (39, 38), (40, 40)):
            found = self.soon(5, killers, form, degree)
            self.assertEqual(len(found), many)
            for one in found[:1] + found[-1:]:
                self.assertTrue(does_kill(one, form))
        small = some_form(pick, 8)
        self.soon(3, lambda: [(killer_ranks(small), killers(small, 5), two_killers(small)) for _ in range(100)])

    def test_refuses(self):
        for value in NO_FORMS:
            self.refuses(InvalidForm, {}, killer_ranks, value)
            self.refuses(InvalidForm, {}, killers, value, 0)
            self.refuses(InvalidForm, {}, killers, value, -1)
        for form in (CUBIC, Form((5,)), Form((0,) * 40), Form((1,) + (0,) * 40)):
            for value in NO_INTEGERS + (-1, form.degree + 2, 41):
                self.refuses_number(value, killers, form, value)


class Two(Case, unittest.TestCase):
    def check(self, form):
        one, other = two_killers(form)
        n, r = form.degree, max(killer_ranks(form))
        self.assertEqual((one.degree, other.degree), (r, n + 2 - r))
        self.assertEqual(one, killers(form, r)[0])
        self.assertTrue(does_kill(one, form) and does_kill(other, form))
        wanted = next(part for part in killers(form, n + 2 - r) if part.quotient(one) is None)
        self.assertEqual(other, wanted)
        self.assertFalse(common_root(one, other))
        return one, other

    def test_pairs(self):
        for form in some_forms(834, 80):
            if form.is_zero:
                continue
            one, other = self.check(form)
            self.assertIsNotNone(factor_between(killed_by(one, other), form))
            self.assertEqual(killed_by(one, other), form.primitive)
            # All killers of each degree are sums of products with both.
            for degree in range(form.degree + 2):
                rows = [one * Form(tuple(int(k == i) for k in range(degree - one.degree + 1)))
                        for i in range(degree - one.degree + 1)] if degree >= one.degree else []
                if degree >= other.degree:
                    rows += [other * Form(tuple(int(k == i) for k in range(degree - other.degree + 1)))
                             for i in range(degree - other.degree + 1)]
                made = reckoned_echelon([row.entries for row in rows])
                self.assertEqual(tuple(part.entries for part in killers(form, degree)), made)

    def test_from_pairs(self):
        """Forms without a common root kill just one form, whose least killer they tell."""
        pick = picker(835)
        many = 0
        for _ in range(120):
            one, other = some_form(pick, pick.randint(1, 5), 3), some_form(pick, pick.randint(1, 5), 3)
            if common_root(one, other):
                self.refuses(Refused, {"reason": ("common",)}, killed_by, one, other)
                continue
            many += 1
            form = killed_by(one, other)
            self.assertEqual(form.degree, one.degree + other.degree - 2)
            self.assertEqual((form, killed_by(other, one)), (form.primitive, form))
            self.assertFalse(form.is_zero)
            self.assertEqual((acted(one, form) if one.degree <= form.degree else (), does_kill(other, form)),
                             ((0,) * (form.degree - one.degree + 1) if one.degree <= form.degree else (), True))
            self.assertEqual(max(killer_ranks(form)), min(one.degree, other.degree))
            both = reckoned_kernel(self.rows(one, form.degree) + self.rows(other, form.degree) + ((0,) * (form.degree + 1),))
            self.assertEqual(both, (form.entries,))
        self.assertGreater(many, 50)

    def rows(self, one, n):
        """Conditions for the entries of forms of the degree n that a form kills."""
        if one.degree > n:
            return ()
        columns = [acted(one, Form(tuple(int(k == i) for k in range(n + 1)))) for i in range(n + 1)]
        return tuple(zip(*columns))

    def test_zeros_at_the_ends(self):
        for one, other in (((0, 0, 1), (1, 0)), ((0, 1, 0), (1, 0, 0, 1)), ((1, 0, 0), (0, 0, 0, 1)), ((0, 3), (5, 0)),
                           ((0, 0, 2, 0), (1, 1, 1)), ((1, 0, 0, 0), (1, 2, 3)), ((0, 1), (1, 0, 0, 0))):
            one, other = Form(one), Form(other)
            form = killed_by(one, other)
            self.assertTrue(does_kill(one, form) and does_kill(other, form) and not form.is_zero)
            self.assertEqual(form, killed_by(other, one))

    def test_common_root_that_is_no_point(self):
        pick = picker(836)
        for part in (QUAD, Form((1, 0, 1)), CUBIC, Form((1, 1, 1, 1, 1))):
            for _ in range(5):
                one, other = part * some_form(pick, pick.randint(0, 3)), part * some_form(pick, pick.randint(0, 3))
                self.refuses(Refused, {"reason": ("common",)}, killed_by, one, other)
        self.refuses(Refused, {"reason": ("common",)}, killed_by, QUAD, QUAD * -3)
        self.refuses(Refused, {"reason": ("common",)}, killed_by, Form((0, 1, 0)), Form((1, 2, 0, 0)))

    def test_greatest(self):
        pick = picker(837)
        for first, second in ((21, 21), (1, 40), (40, 2), (13, 29)):
            one, other = some_form(pick, first, LET), some_form(pick, second, LET)
            form = self.soon(4, killed_by, one, other)
            self.assertEqual((form.degree, form.content), (first + second - 2, 1))
            self.assertTrue(does_kill(one, form) and does_kill(other, form))
        for degree in (39, 40):
            form = some_form(pick, degree, LET)
            one, other = self.soon(8, two_killers, form)
            self.assertEqual((one.degree, other.degree), (20, 21) if degree == 39 else (21, 21))
            self.assertTrue(does_kill(one, form) and does_kill(other, form))
        points = some_points(pick, 3, 30)
        form = sum((Form.power(point, 40) * k for point, k in zip(points[1:], (2, -5))), Form.power(points[0], 40))
        one, other = self.soon(8, two_killers, form)
        self.assertEqual((one, other.degree), (product_of(map(line_of, points)).primitive, 39))
        self.assertEqual(self.soon(3, killed_by, Form.power((1, 0), 40), Form((0, 0, 1))).degree, 40)

    def test_refuses(self):
        for value in NO_FORMS:
            self.refuses(InvalidForm, {}, two_killers, value)
            self.refuses(InvalidForm, {}, killed_by, value, CUBIC)
            self.refuses(InvalidForm, {}, killed_by, value, None)
            self.refuses(InvalidForm, {}, killed_by, Form((1,)), value)
        for zero in ZEROS:
            self.refuses(Refused, {"reason": ("zero",)}, two_killers, zero)
        self.refuses(TooMany, {"limit": 40}, two_killers, Form.power((2, -3), 40))
        self.refuses(TooMany, {"limit": 40}, two_killers, Form((0,) * 40 + (7,)))
        self.assertEqual([one.degree for one in two_killers(Form.power((2, -3), 39))], [1, 40])
        for one, other in ((Form((1,)), CUBIC), (CUBIC, Form((1,))), (Form((0,)), Form((0,))), (Form((0,)), Form((1,) * 41)),
                           (Form((1,)), Form((0, 0)))):
            self.refuses(InvalidOperation, {}, killed_by, one, other)
        for one, other in ((Form((1,) * 22), Form((1,) * 23)), (Form((0,) * 41), Form((0,) * 4)), (Form((1,) * 41), CUBIC)):
            self.refuses(TooMany, {"limit": 40}, killed_by, one, other)
        for one, other in ((Form((0, 0)), CUBIC), (CUBIC, Form((0, 0))), (Form((0, 0)), Form((0, 0, 0))), (CUBIC, CUBIC),
                           (Form((0,) * 22), Form((1,) + (0,) * 21)), (Form((1, 0)), Form((3, 0)))):
            self.refuses(Refused, {"reason": ("common",)}, killed_by, one, other)


class Statements(Case, unittest.TestCase):
    def test_what_is_not_true(self):
        one, other = Form((1, 0, 0, 1)), Form((1, 0, 0, -1))
        self.assertEqual((killers(one, 2), killers(other, 2), factor_between(one, other)), ((Form((0, 1, 0)),), (Form((0, 1, 0)),), None))
        self.assertEqual(killers(Form((1, 0, 1)), 1), ())


class Examples(Case, unittest.TestCase):
    def test_document(self):
        self.run_examples("""
>>> [level_table(CUBIC, 1), level_table(CUBIC, 2), killer_ranks(CUBIC), killer_ranks(Form((0, 0))), killers(CUBIC, 1)]
[((6, 0), (0, -6), (-6, 6)), ((6, 0, -6), (0, -6, 6)), (1, 2, 2, 1), (0, 0), ()]
>>> [killers(CUBIC, 2) == (Form((1, 1, 1)),), [tuple(one) for one in killers(CUBIC, 3)], [tuple(one) for one in killers(Form((3,)), 1)]]
[True, [(1, 0, 0, -1), (0, 1, 0, 0), (0, 0, 1, 1)], [(1, 0), (0, 1)]]
>>> [[tuple(one) for one in two_killers(form)] for form in (CUBIC, BENT, FOUR, SIX)]
[[(1, 1, 1), (0, 1, 0, 0)], [(1, -2, 1), (1, 0, -3, 0)], [(1, 0, 0, -4), (0, 1, 0, 0)], [(1, 0, 0, 0, 1), (0, 0, 1, 0, 0)]]
>>> [does_kill(Form((1, 1, 1)), CUBIC), does_kill(Form((1, 0)), CUBIC), killed(Form((1, 0)), CUBIC) == Form((3, 0, -3)), does_kill(QUAD, Form((5, 7)))]
[True, False, True, True]
>>> [killed_by(Form((1, 1, 1)), Form((0, 1, 0, 0))) == CUBIC, killed_by(Form((1, 0)), Form((0, 1))) == Form((1,))]
[True, True]
>>> killed_by(Form((1, 0, -1)), Form((1, -2, 1)))
raises Refused(('common',))
>>> killed(FOUR, CUBIC)
raises InvalidOperation
""", NAMES)

    def test_places(self):
        for call in (level_table, does_kill, killed, killer_ranks, killers, two_killers, killed_by):
            self.assertEqual(call.__module__, "sourceforms.power.killers")


if __name__ == "__main__":
    unittest.main()
