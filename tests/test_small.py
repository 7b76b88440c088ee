import unittest
from fractions import Fraction
from itertools import combinations, product
from math import prod

from sourceforms import errors
from sourceforms.count.boxes import covariant_count
from sourceforms.errors import InvalidForm, InvalidOperation, InvalidSum, Refused
from sourceforms.form.forms import Form
from sourceforms.form.layings import laid
from sourceforms.sums.sources import covariant_at, source_basis, source_of_rows
from sourceforms.sums.sums import Sum
from sourceforms.system import small as module
from sourceforms.system.small import expressed, rule_terms, system_at, system_rows, unfolded
from tests.support import BENT, CUBIC, FOUR, LET, LONG, NO_INTEGERS, NO_TUPLES, QUAD, SIX, Case, picker, some_form, some_table
from tests.test_sources import NO_FORMS, NO_SUMS

NAMES = {**vars(errors), **vars(module), "Sum": Sum, "Form": Form, "QUAD": QUAD, "CUBIC": CUBIC, "FOUR": FOUR}
SIZES = {2: (1, 2), 3: (1, 2, 3, 4), 4: (1, 2, 2, 3, 3)}
ORDERS = {2: (2, 0), 3: (3, 2, 3, 0), 4: (4, 0, 4, 0, 6)}
NO_DEGREES = NO_INTEGERS + (0, 1, 5, 6, -2)


def members_of(form):
    """By the words of [8.1]."""
    hesse = laid(form, form, 2)
    if form.degree == 2:
        return (form, hesse)
    turn = laid(form, hesse, 1)
    if form.degree == 3:
        return (form, hesse, turn, laid(hesse, hesse, 2))
    return (form, laid(form, form, 4), hesse, laid(form, hesse, 4), turn)


def all_powers(degree, size, order):
    """All powers with a size and an order, by trying all."""
    ranges = [range(size // heavy + 1) for heavy in SIZES[degree]]
    return [powers for powers in product(*ranges)
            if sum(a * b for a, b in zip(powers, SIZES[degree])) == size
            and sum(a * b for a, b in zip(powers, ORDERS[degree])) == order]


def is_low(powers):
    return len(powers) == 2 or (powers[2] if len(powers) == 4 else powers[4]) < 2


def value_of_terms(terms, form, x, y):
    values = [member.value(x, y) for member in members_of(form)]
    return sum(Fraction(*ratio) * prod(value ** often for value, often in zip(values, powers))
               for powers, ratio in terms.items())


class Systems(Case, unittest.TestCase):
    def test_constant(self):
        self.assertEqual(module.MAX_UNFOLDED, 12)

    def test_members(self):
        pick = picker(301)
        for degree in (2, 3, 4):
            for most in (0, 1, 5, LET):
                for _ in range(6):
                    form = some_form(pick, degree, most)
                    members = system_at(form)
                    self.assertEqual(members, members_of(form))
                    self.assertEqual(tuple(member.degree for member in members), ORDERS[degree])

    def test_rows_tell_the_members(self):
        for degree in (2, 3, 4):
            rows = system_rows(degree)
            for at in range(len(rows) + 1):
                source = source_of_rows(degree, rows[:at])
                self.assertEqual((source.size, source.order), (SIZES[degree][at], ORDERS[degree][at]))

    def test_rules(self):
        pick = picker(302)
        self.assertEqual(rule_terms(2), {})
        self.assertEqual(rule_terms(3), {(0, 0, 2, 0): 2, (0, 3, 0, 0): 1, (2, 0, 0, 1): 9})
        self.assertEqual(rule_terms(4), {(0, 0, 0, 0, 2): 9, (0, 0, 3, 0, 0): 8, (2, 1, 1, 0, 0): -144, (3, 0, 0, 1, 0): 96})
        for degree in (3, 4):
            rule = rule_terms(degree)
            self.assertEqual(list(rule), sorted(rule))
            rule[(9,) * len(ORDERS[degree])] = 1
            self.assertNotEqual(rule, rule_terms(degree))
            for _ in range(20):
                form, x, y = some_form(pick, degree), pick.randint(-9, 9), pick.randint(-9, 9)
                terms = {powers: (number, 1) for powers, number in rule_terms(degree).items()}
                self.assertEqual(value_of_terms(terms, form, x, y), 0)
            self.refuses(Refused, {"reason": ("nothing",)}, unfolded, degree, terms)

    def test_three_lines(self):
        pick = picker(303)
        for _ in range(20):
            lines = [(pick.randint(-5, 5), pick.randint(-5, 5)) for _ in range(3)]
            form = Form(lines[0]) * Form(lines[1]) * Form(lines[2])
            wanted = prod((a * d - b * c) ** 2 for (a, b), (c, d) in combinations(lines, 2))
            self.assertEqual(system_at(form)[3], Form((384 * wanted,)))

    def test_refuses(self):
        for value in NO_DEGREES:
            self.refuses_number(value, system_rows, value)
            self.refuses_number(value, rule_terms, value)
        for value in NO_FORMS:
            self.refuses(InvalidForm, {}, system_at, value)
        for form in (SIX, Form((1,)), Form((1, 2)), Form((1, 0, 0, 0, 0, 1)), Form((0,) * 41)):
            self.refuses(InvalidOperation, {}, system_at, form)


class Expressed(Case, unittest.TestCase):
    def test_all_sources(self):
        pick = picker(304)
        for degree in (2, 3, 4):
            for size in range(13):
                for weight in range(degree * size // 2 + 1):
                    order = degree * size - 2 * weight
                    basis = source_basis(degree, size, weight)
                    low = [powers for powers in all_powers(degree, size, order) if is_low(powers)]
                    self.assertEqual(len(low), covariant_count(degree, size, order))
                    self.assertEqual(len(basis), len(low))
                    for one in basis[:2] + basis[-1:]:
                        terms = expressed(one)
                        self.assertTrue(terms and set(terms) <= set(low))
                        self.assertEqual(list(terms), sorted(terms))
                        if size:
                            self.assertEqual(unfolded(degree, terms), one)
                        if order <= 40 and pick.randint(0, 3) == 0:
                            form, x, y = some_form(pick, degree, 4), pick.randint(-4, 4), pick.randint(-4, 4)
                            self.assertEqual(covariant_at(one, form).value(x, y), value_of_terms(terms, form, x, y))

    def test_sums_of_multiples(self):
        pick = picker(305)
        for degree, size, weight in ((4, 12, 24), (4, 12, 12), (3, 12, 18), (4, 9, 6), (3, 10, 9), (2, 12, 6)):
            total = Sum(degree, {})
            for one in source_basis(degree, size, weight):
                total = total + one * pick.randint(-LET, LET)
            self.assertEqual(unfolded(degree, {key: ratio for key, ratio in expressed(total).items()})
                             if all(abs(part) < LONG for ratio in expressed(total).values() for part in ratio)
                             else total, total)

    def test_constants(self):
        for degree in (2, 3, 4):
            self.assertEqual(expressed(Sum(degree, {(0,) * (degree + 1): -7})), {(0,) * len(SIZES[degree]): (-7, 1)})

    def test_single_powers(self):
        pick = picker(306)
        for degree in (2, 3, 4):
            for size in range(1, 13):
                for order in range(0, degree * size + 1):
                    for powers in all_powers(degree, size, order):
                        if is_low(powers):
                            ratio = (pick.choice((-6, 1, 4)), 1)
                            self.assertEqual(expressed(unfolded(degree, {powers: ratio})), {powers: ratio})

    def test_long_integers(self):
        one = Sum.entry(4, 0) * LET * LET
        self.assertEqual(expressed(one), {(1, 0, 0, 0, 0): (LET ** 2, 1)})

    def test_refuses(self):
        for value in NO_SUMS:
            self.refuses(InvalidSum, {}, expressed, value)
        for one in (Sum(3, {}), Sum.entry(3, 1), Sum.entry(4, 4), Sum(2, {(1, 0, 1): 1}), Sum.entry(1, 0),
                    Sum.entry(5, 0), Sum.entry(8, 0), Sum(1, {(0, 0): 1}), Sum(6, {})):
            self.refuses(InvalidOperation, {}, expressed, one)


ONE = (1, 1)
NO_TERMS = (
    None, True, 0, "a", (), [], {}, [((1, 0, 0, 0), ONE)], QUAD, Sum.entry(3, 0), {(1, 0, 0): ONE}, {(1, 0, 0, 0, 0): ONE},
    {(): ONE}, {1: ONE}, {"1000": ONE}, {None: ONE}, {(0, 0, 0, 0): ONE}, {(-1, 1, 0, 0): ONE}, {(2, -1, 1, 0): ONE},
    {(True, 0, 0, 0): ONE}, {(1, False, 0, 0): ONE}, {(1, None, 0, 0): ONE}, {(13, 0, 0, 0): ONE}, {(1, 0, 0, 3): ONE},
    {(0, 0, 0, 4): ONE}, {(LONG, 0, 0, 0): ONE}, {(LET, 0, 0, 0): ONE}, {(1, 0, 0, 0): 1}, {(1, 0, 0, 0): (0, 1)},
    {(1, 0, 0, 0): (2, 2)}, {(1, 0, 0, 0): (1, 0)}, {(1, 0, 0, 0): (1, -1)}, {(1, 0, 0, 0): (True, 1)},
    {(1, 0, 0, 0): (1, True)}, {(1, 0, 0, 0): None}, {(1, 0, 0, 0): [1, 1]}, {(1, 0, 0, 0): (LONG, 1)}, {(1, 0, 0, 0): (1,)},
    {(1, 0, 0, 0): ONE, (0, 1, 0, 0): ONE}, {(0, 0, 1, 0): ONE, (1, 0, 0, 0): ONE}, {(4, 0, 0, 0): ONE, (0, 2, 0, 0): ONE},
    {(1, 0, 0, 0): ONE, (1, 0, 0): ONE}, {(1, 0, 0, 0): ONE, (3, 0, 0, 0): (0, 1)},
)


class Unfolded(Case, unittest.TestCase):
    def test_values(self):
        pick = picker(307)
        seen = 0
        for _ in range(150):
            degree, size = pick.randint(2, 4), pick.randint(1, 9)
            powers = all_powers(degree, size, degree * size - 2 * pick.randint(0, degree * size // 2))
            terms = {key: (pick.choice((-2, -1, 1, 5)), 1) for key in powers if pick.randint(0, 2)}
            if not terms:
                continue
            form = some_form(pick, degree, 5)
            told = value_of_terms(terms, form, 1, 0)
            try:
                self.assertEqual(unfolded(degree, terms).at(form), told)
                seen += 1
            except Refused as error:
                self.assertEqual((error.reason, told), (("nothing",), 0))
        self.assertGreater(seen, 60)

    def test_whole(self):
        self.assertEqual(unfolded(2, {(0, 1): (1, 2)}), Sum(2, {(1, 0, 1): 4, (0, 2, 0): -1}))
        self.refuses(Refused, {"reason": ("whole",)}, unfolded, 2, {(0, 1): (1, 4)})
        self.refuses(Refused, {"reason": ("whole",)}, unfolded, 2, {(1, 0): (1, LET)})
        # Ratios that are no integers can make integers together.
        half = {(0, 0, 2, 0): (1, 2), (0, 3, 0, 0): (1, 4), (2, 0, 0, 1): (9, 4)}
        self.refuses(Refused, {"reason": ("nothing",)}, unfolded, 3, half)
        self.refuses(Refused, {"reason": ("nothing",)}, unfolded, 3, {key: (top, 3 * low) if top != 9 else (3, low)
                                                                      for key, (top, low) in half.items()})
        more = dict(half)
        more[0, 0, 2, 0] = (5, 2)
        self.assertEqual(unfolded(3, more), unfolded(3, {(0, 0, 2, 0): (2, 1)}))

    def test_bounds(self):
        self.assertEqual(unfolded(3, {(12, 0, 0, 0): ONE}), Sum(3, {(12, 0, 0, 0): 1}))
        self.assertEqual(unfolded(3, {(0, 0, 0, 3): ONE}).size, 12)
        self.assertEqual(unfolded(4, {(0, 0, 0, 0, 4): (LET, 1)}).order, 24)
        self.assertEqual(unfolded(2, {(0, 6): (LET, 64)}).at(QUAD), LET * 4 ** 6 * 4 ** 3)

    def test_refuses(self):
        for value in NO_DEGREES:
            self.refuses_number(value, unfolded, value, {})
            self.refuses_number(value, unfolded, value, {(0, 1): (1, 4)})
        for value in NO_TERMS:
            self.refuses(InvalidOperation, {}, unfolded, 3, value)
        self.refuses(InvalidOperation, {}, unfolded, 2, {(0, 7): ONE})
        self.refuses(InvalidOperation, {}, unfolded, 4, {(0, 0, 0, 0, 5): ONE})
        self.refuses(InvalidOperation, {}, unfolded, 4, {(0, 1, 0, 0, 0): ONE, (0, 0, 1, 0, 0): ONE})


class Statements(Case, unittest.TestCase):
    def test_changed_members(self):
        pick = picker(308)
        for degree in (2, 3, 4):
            form, table = some_form(pick, degree), some_table(pick, 3)
            t = table[0][0] * table[1][1] - table[0][1] * table[1][0]
            for one, other, size, order in zip(system_at(form), system_at(form.changed(table)), SIZES[degree], ORDERS[degree]):
                self.assertEqual(other, one.changed(table) * t ** ((degree * size - order) // 2))

    def test_what_is_not_true(self):
        turn = source_of_rows(3, system_rows(3)[:2])
        self.assertEqual(len(expressed(turn * turn)), 2)
        self.assertEqual(expressed(Sum(4, {(1, 0, 0, 0, 1): 12, (0, 1, 0, 1, 0): -3, (0, 0, 2, 0, 0): 1})), {(0, 1, 0, 0, 0): (1, 96)})
        self.assertTrue(system_at(Form((1, 0, 0, 0, 1)))[3].is_zero)
        self.assertEqual((ORDERS[3][0], ORDERS[3][2]), (3, 3))
        self.assertEqual(system_at(BENT)[3], Form((0,)))


class Examples(Case, unittest.TestCase):
    def test_document(self):
        self.run_examples("""
>>> [system_rows(2), system_rows(3), system_rows(4)]
[((0, 0, 2),), ((0, 0, 2), (0, 1, 1), (1, 1, 2)), ((0, 0, 4), (0, 0, 2), (0, 2, 4), (0, 2, 1))]
>>> [member.entries for member in system_at(CUBIC)]
[(1, 0, -3, 1), (-72, 72, -72), (216, -1296, 648, 216), (31104,)]
>>> [system_at(QUAD)[1].entries, [member.entries for member in system_at(FOUR)][1:]]
[(-16,), [(0,), (0, 144, 0, 0, -18), (-31104,), (576, 0, 0, -1440, 0, 0, -72)]]
>>> DISC = Sum(3, {(2, 0, 0, 2): -27, (1, 1, 1, 1): 18, (1, 0, 3, 0): -4, (0, 3, 0, 1): -4, (0, 2, 2, 0): 1})
>>> [expressed(DISC), expressed(Sum(4, {(1, 0, 0, 0, 1): 12, (0, 1, 0, 1, 0): -3, (0, 0, 2, 0, 0): 1}))]
[{(0, 0, 0, 1): (1, 384)}, {(0, 1, 0, 0, 0): (1, 96)}]
>>> [unfolded(3, {(0, 0, 0, 1): (1, 384)}) == DISC, unfolded(2, {(1, 1): (1, 2)}) == Sum(2, {(2, 0, 1): 4, (1, 2, 0): -1}), rule_terms(3), rule_terms(2)]
[True, True, {(0, 0, 2, 0): 2, (0, 3, 0, 0): 1, (2, 0, 0, 1): 9}, {}]
>>> expressed(unfolded(3, {(0, 0, 2, 0): (1, 1)}))
{(0, 3, 0, 0): (-1, 2), (2, 0, 0, 1): (-9, 2)}
>>> unfolded(2, {(0, 1): (1, 4)})
raises Refused(('whole',))
""", NAMES)

    def test_places(self):
        for call in (system_rows, system_at, expressed, unfolded, rule_terms):
            self.assertEqual(call.__module__, "sourceforms.system.small")


if __name__ == "__main__":
    unittest.main()
