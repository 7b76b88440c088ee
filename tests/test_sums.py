import unittest
from itertools import product
from math import factorial, prod

from sourceforms import errors
from sourceforms.errors import InvalidForm, InvalidSum, TooMany
from sourceforms.form.forms import Form
from sourceforms.sums import sums
from sourceforms.sums.sums import Sum
from tests.support import CUBIC, LET, LONG, NO_INTEGERS, NO_TUPLES, QUAD, Case, picker, some_form

DISC = Sum(2, {(0, 2, 0): 1, (1, 0, 1): -4})
LEAD = Sum.entry(3, 0)
HESSE = LEAD * Sum.entry(3, 2) * 3 - Sum.entry(3, 1) * Sum.entry(3, 1)
NAMES = {**vars(errors), "Sum": Sum, "Form": Form, "QUAD": QUAD, "CUBIC": CUBIC}

NO_TERMS = (
    None, True, 3, "a", (), [], [((0, 2, 0), 1)], (((0, 2, 0), 1),), DISC, QUAD,
    {(0, 2): 1}, {(0, 2, 0, 0): 1}, {(): 1}, {3: 1}, {"020": 1}, {None: 1}, {True: 1},
    {(0, 2, 0): 0}, {(0, 2, 0): True}, {(0, 2, 0): False}, {(0, 2, 0): None}, {(0, 2, 0): "1"}, {(0, 2, 0): (1,)},
    {(0, 2, 0): LONG}, {(0, 2, 0): -LONG}, {(0, -2, 0): 1}, {(2, -1, 1): 1}, {(True, 1, 0): 1}, {(1, False, 1): 1},
    {(None, 2, 0): 1}, {("0", 2, 0): 1}, {((0,), 2, 0): 1}, {(0, 13, 0): 1}, {(6, 6, 1): 1}, {(LONG, 0, 0): 1},
    {(1, 1, 0): 1, (0, 0, 2): 1}, {(1, 0, 0): 1, (2, 0, 0): 1}, {(0, 2, 0): 1, (1, 0, 1): 0},
    {(0, 2, 0): 1, (1, 0, 1): True}, {(0, 2, 0): 1, (1, 0): 2}, {(0, 2, 0): 1, (1, 0, 1, 0): 2},
    {(0, 1, 0): 1, (1, 0, 1): 1}, {(2, 0, 1): 1, (0, 2, 0): 1}, {(0, 2, 0): 1, (1, 0, LONG): 1},
)


def all_exponents(degree, size, weight):
    """All exponents of a size and a weight, the last entry first."""
    def rest(index, left, heavy):
        if index == 0:
            if heavy == 0:
                yield (left,)
            return
        for often in range(min(left, heavy // index) + 1):
            for part in rest(index - 1, left - often, heavy - often * index):
                yield part + (often,)
    return sorted(rest(degree, size, weight))


def some_sum(pick, degree, size, weight, most=9):
    """A sum with some of the terms of a size and a weight."""
    terms = {}
    for exponents in all_exponents(degree, size, weight):
        number = pick.randint(-most, most)
        if number:
            terms[exponents] = number
    return Sum(degree, terms)


def some_sums(seed, many, most_size=4):
    pick = picker(seed)
    found = []
    for _ in range(many):
        degree, size = pick.randint(1, 8), pick.randint(0, most_size)
        found.append(some_sum(pick, degree, size, pick.randint(0, degree * size)))
    return found


def value_at(terms, entries):
    return sum(number * prod(c ** e for c, e in zip(entries, exponents)) for exponents, number in terms.items())


def slope(total, form, steps):
    """The derivative of the value in the direction of the steps, by the terms."""
    found = 0
    for exponents, number in total.terms.items():
        for index, often in enumerate(exponents):
            if often:
                less = tuple(e - (k == index) for k, e in enumerate(exponents))
                found += number * often * steps[index] * value_at({less: 1}, form.entries)
    return found


class Making(Case, unittest.TestCase):
    def test_constants(self):
        self.assertEqual((sums.MAX_SUMMED, sums.MAX_SIZE, sums.MAX_TERMS), (8, 12, 4000))

    def test_properties(self):
        for degree in range(1, 9):
            for size in (0, 1, 2, 12):
                for weight in (0, size, degree * size // 2, degree * size):
                    exponents = all_exponents(degree, size, weight)[:5]
                    terms = {key: (-1) ** at * (at + 1) for at, key in enumerate(exponents)}
                    one = Sum(degree, terms)
                    self.assertEqual((one.degree, one.size, one.weight), (degree, size, weight))
                    self.assertEqual((one.order, one.is_zero), (degree * size - 2 * weight, False))
                    self.assertEqual((one.terms, len(one), list(one)), (terms, len(terms), sorted(terms.items())))

    def test_all_terms_of_the_greatest_size(self):
        terms = {exponents: LET for exponents in all_exponents(8, 12, 48)}
        self.assertEqual(len(Sum(8, terms)), 3788)
        self.assertEqual(Sum(8, terms).terms, terms)

    def test_zero_sums(self):
        for degree in range(1, 9):
            zero = Sum(degree, {})
            self.assertEqual((zero.degree, zero.terms, len(zero), list(zero)), (degree, {}, 0, []))
            self.assertEqual((zero.size, zero.weight, zero.order, zero.is_zero), (None, None, None, True))
            self.assertTrue(zero.lowered() == zero.raised() == -zero == zero + zero == zero * zero == zero * 7 == zero)

    def test_ascending_terms(self):
        backwards = Sum(2, {(1, 0, 1): -4, (0, 2, 0): 1})
        self.assertEqual(list(backwards.terms), [(0, 2, 0), (1, 0, 1)])
        self.assertEqual(backwards, DISC)
        for one in some_sums(71, 40):
            for made in (one, one.lowered(), one.raised(), -one, one * 3, one + one):
                self.assertEqual(list(made.terms), sorted(made.terms))
                self.assertEqual(list(made), list(made.terms.items()))

    def test_nothing_is_shared(self):
        terms = {(0, 2, 0): 1, (1, 0, 1): -4}
        one = Sum(2, terms)
        terms[0, 2, 0] = 9
        one.terms[0, 2, 0] = 9
        one.terms.clear()
        self.assertEqual(one, DISC)
        for name in ("degree", "terms", "size", "weight", "order", "is_zero"):
            with self.assertRaises(AttributeError):
                setattr(one, name, 3)

    def test_entry(self):
        for degree in range(1, 9):
            for index in range(degree + 1):
                one = Sum.entry(degree, index)
                self.assertEqual(one.terms, {tuple(int(k == index) for k in range(degree + 1)): 1})
                self.assertEqual((one.size, one.weight, one.order), (1, index, degree - 2 * index))
                form = Form(tuple(range(5, 6 + degree)))
                self.assertEqual(one.at(form), 5 + index)

    def test_refuses(self):
        for value in NO_INTEGERS + (0, 9, -1):
            self.refuses_number(value, Sum, value, {})
            self.refuses_number(value, Sum, value, None)
            self.refuses_number(value, Sum.entry, value, 0)
            self.refuses_number(value, Sum.entry, value, None)
        for value in NO_TERMS:
            self.refuses(InvalidSum, {}, Sum, 2, value)
        for value in NO_INTEGERS + (-1, 4, 9):
            self.refuses_number(value, Sum.entry, 3, value)
        self.refuses(InvalidSum, {}, Sum, 8, {(k,) + (0,) * 8: 1 for k in range(4001)})

    def test_methods_stand_in_the_class(self):
        names = "entry degree terms size weight order is_zero lowered raised at"
        signs = "__init__ __add__ __sub__ __mul__ __neg__ __eq__ __len__ __iter__ __str__"
        for name in names.split() + signs.split():
            self.assertIn(name, vars(Sum))
        self.assertEqual(Sum.__module__, "sourceforms.sums.sums")

    def test_texts(self):
        self.assertEqual(str(Sum(8, {})), "zero sum of degree 8")
        self.assertEqual(str(Sum.entry(3, 2)), "sum of degree 3, size 1 and weight 2 with 1 terms")
        self.assertEqual(str(Sum(1, {(0, 0): 7})), "sum of degree 1, size 0 and weight 0 with 1 terms")

    def test_equality(self):
        self.assertTrue(DISC == Sum(2, {(1, 0, 1): -4, (0, 2, 0): 1}))
        self.assertFalse(DISC != Sum(2, {(1, 0, 1): -4, (0, 2, 0): 1}))
        for value in (None, True, 0, "a", (), [], DISC.terms, QUAD, -DISC, Sum(2, {}), Sum(2, {(0, 2, 0): 1}), DISC * 2):
            self.assertIs(DISC == value, False)
            self.assertIs(DISC != value, True)
            self.assertIs(value == DISC, False)
        self.assertFalse(Sum(2, {}) == Sum(3, {}))
        self.assertFalse(Sum(2, {}) == {})


class Moving(Case, unittest.TestCase):
    def test_lowered_and_raised_values(self):
        """The lowered and the raised sum are derivatives of the values if x + t y, or y + t x, is put."""
        pick = picker(72)
        for one in some_sums(73, 60):
            n = one.degree
            form = some_form(pick, n, 5)
            down = [0] + [(n - i + 1) * form.entries[i - 1] for i in range(1, n + 1)]
            up = [(i + 1) * form.entries[i + 1] for i in range(n)] + [0]
            self.assertEqual(one.lowered().at(form), slope(one, form, down))
            self.assertEqual(one.raised().at(form), slope(one, form, up))

    def test_size_and_weight(self):
        for one in some_sums(74, 60):
            for made, step in ((one.lowered(), -1), (one.raised(), 1)):
                self.assertEqual(made.degree, one.degree)
                if not made.is_zero:
                    self.assertEqual((made.size, made.weight), (one.size, one.weight + step))

    def test_single_entries(self):
        for n in range(1, 9):
            for i in range(n + 1):
                low = Sum.entry(n, i - 1) * (n - i + 1) if i else Sum(n, {})
                high = Sum.entry(n, i + 1) * (i + 1) if i < n else Sum(n, {})
                self.assertEqual(Sum.entry(n, i).lowered(), low)
                self.assertEqual(Sum.entry(n, i).raised(), high)

    def test_rule_of_products(self):
        pick = picker(75)
        for _ in range(40):
            n = pick.randint(1, 5)
            one, other = (some_sum(pick, n, d, pick.randint(0, n * d)) for d in (pick.randint(0, 3), pick.randint(0, 3)))
            self.assertEqual((one * other).lowered(), one.lowered() * other + one * other.lowered())
            self.assertEqual((one * other).raised(), one.raised() * other + one * other.raised())

    def test_raised_and_lowered(self):
        for one in some_sums(76, 80, 5):
            if not one.is_zero:
                self.assertEqual(one.raised().lowered() - one.lowered().raised(), one * one.order)

    def test_substitutions(self):
        pick = picker(77)
        for one in some_sums(78, 40, 3):
            form, t = some_form(pick, one.degree, 4), pick.randint(-3, 3)
            for table, move in ((((1, t), (0, 1)), Sum.lowered), (((1, 0), (t, 1)), Sum.raised)):
                total, left, steps = 0, one, []
                while not left.is_zero:
                    steps.append(left.at(form))
                    left = move(left)
                top = factorial(len(steps))
                for j, worth in enumerate(steps):
                    total += t ** j * top // factorial(j) * worth
                self.assertEqual(one.at(form.changed(table)) * top, total)
            p, q = pick.randint(-3, 3), pick.randint(-3, 3)
            if not one.is_zero:
                factor = p ** (one.degree * one.size - one.weight) * q ** one.weight
                self.assertEqual(one.at(form.changed(((p, 0), (0, q)))), factor * one.at(form))

    def test_orders_of_sources(self):
        for n in range(1, 5):
            for d in range(1, 4):
                for w in range(n * d + 1):
                    for exponents in all_exponents(n, d, w):
                        one = Sum(n, {exponents: 1})
                        if one.lowered().is_zero:
                            self.assertGreaterEqual(one.order, 0)
                        if one.order > 0:
                            self.assertFalse(one.raised().is_zero)

    def test_what_is_not_true(self):
        self.assertTrue(DISC.raised().is_zero and DISC.order == 0)
        second = Sum.entry(3, 1) * Sum.entry(3, 1)
        self.assertNotEqual(second.raised().lowered().terms.keys(), second.terms.keys())
        one, other = Sum(2, {(2, 1, 0): 1}), Sum(2, {(1, 2, 0): 1})
        for entries in product((0, 1), repeat=3):
            self.assertEqual(one.at(Form(entries)), other.at(Form(entries)))
        self.assertNotEqual(one, other)
        middle = Sum.entry(3, 1)
        self.assertNotEqual((middle * middle).lowered().terms, (middle.lowered() * middle.lowered()).terms)


class Values(Case, unittest.TestCase):
    def test_values(self):
        pick = picker(79)
        for one in some_sums(80, 80, 6):
            for most in (1, 9, LET):
                form = some_form(pick, one.degree, most)
                self.assertEqual(one.at(form), value_at(one.terms, form.entries))
        self.assertEqual(Sum(1, {(0, 12): 2}).at(Form((0, 3))), 2 * 3 ** 12)
        self.assertEqual(Sum(1, {(0, 0): 7}).at(Form((0, 0))), 7)
        self.assertEqual(Sum(3, {}).at(CUBIC), 0)

    def test_discriminants(self):
        for a, b, c in product(range(-2, 3), repeat=3):
            self.assertEqual(DISC.at(Form((a, b, c))), b * b - 4 * a * c)

    def test_refuses(self):
        for value in NO_TUPLES[:-1] + ((1, 0, -2), DISC, CUBIC, Form((1, 2)), Form((0,))):
            self.refuses(InvalidForm, {}, DISC.at, value)
            self.refuses(InvalidForm, {}, Sum(2, {}).at, value)


class Operators(Case, unittest.TestCase):
    def test_sums(self):
        pick = picker(81)
        for _ in range(80):
            n, d = pick.randint(1, 6), pick.randint(0, 4)
            w = pick.randint(0, n * d)
            one, other = some_sum(pick, n, d, w, 2), some_sum(pick, n, d, w, 2)
            keys = set(one.terms) | set(other.terms)
            for made, sign in ((one + other, 1), (one - other, -1)):
                wanted = {key: one.terms.get(key, 0) + sign * other.terms.get(key, 0) for key in keys}
                self.assertEqual(made.terms, {key: number for key, number in wanted.items() if number})
            self.assertEqual((-one).terms, {key: -number for key, number in one.terms.items()})
            self.assertTrue((one - one).is_zero)
            for number in (0, 1, -1, 5, LET):
                wanted = {key: part * number for key, part in one.terms.items() if number}
                self.assertEqual((one * number).terms, wanted)

    def test_products(self):
        pick = picker(82)
        for _ in range(60):
            n = pick.randint(1, 5)
            one, other = (some_sum(pick, n, d, pick.randint(0, n * d), 3) for d in (pick.randint(0, 4), pick.randint(0, 4)))
            wanted = {}
            for first, a in one.terms.items():
                for second, b in other.terms.items():
                    key = tuple(i + j for i, j in zip(first, second))
                    wanted[key] = wanted.get(key, 0) + a * b
            self.assertEqual((one * other).terms, {key: number for key, number in wanted.items() if number})
            self.assertEqual(one * other, other * one)

    def test_zero_sums(self):
        zero = Sum(2, {})
        self.assertEqual((DISC + zero, zero + DISC, DISC - zero, zero - DISC), (DISC, DISC, DISC, -DISC))
        self.assertTrue((zero * DISC).is_zero and (DISC * zero).is_zero and (DISC * 0).is_zero)
        great = Sum(2, {(12, 0, 0): 1})
        self.assertTrue((great * zero).is_zero and (zero * great).is_zero)

    def test_bounds(self):
        six = Sum(2, {(6, 0, 0): 1})
        self.assertEqual((six * six).terms, {(12, 0, 0): 1})
        self.assertEqual((six * six * Sum(2, {(0, 0, 0): 3})).size, 12)
        self.refuses(TooMany, {"limit": 12}, lambda: six * six * Sum.entry(2, 1))
        self.refuses(TooMany, {"limit": 12}, lambda: Sum.entry(2, 1) * (six * six))
        self.refuses_number(LONG, lambda: DISC * LONG)
        self.refuses_number(-LONG, lambda: Sum(2, {}) * -LONG)

    def test_longer_integers_go_on(self):
        long = DISC * LET * LET
        self.assertEqual(long.terms, {(0, 2, 0): LET ** 2, (1, 0, 1): -4 * LET ** 2})
        self.assertEqual((long - DISC * LET * LET).is_zero, True)
        self.assertEqual((long * long).at(QUAD), 64 * LET ** 4)
        self.assertTrue(long.lowered().is_zero)

    def test_refuses(self):
        for call in (lambda a, b: a + b, lambda a, b: a - b):
            self.refuses(InvalidSum, {}, call, DISC, Sum.entry(2, 0))
            self.refuses(InvalidSum, {}, call, DISC, Sum(2, {(2, 0, 0): 1}))
            self.refuses(InvalidSum, {}, call, DISC, Sum.entry(2, 2))
            self.refuses(InvalidSum, {}, call, Sum(2, {(1, 1, 1): 1}), Sum(2, {(1, 2, 0): 1}))
            self.refuses(InvalidSum, {}, call, DISC, HESSE)
            self.refuses(InvalidSum, {}, call, DISC, Sum(3, {}))
            self.refuses(InvalidSum, {}, call, Sum(3, {}), DISC)
            self.refuses(InvalidSum, {}, call, Sum(3, {}), Sum(2, {}))
        for other in (HESSE, Sum(3, {}), Sum(3, {(12, 0, 0, 0): 1})):
            self.refuses(InvalidSum, {}, lambda: DISC * other)
            self.refuses(InvalidSum, {}, lambda: other * DISC)

    def test_other_kinds(self):
        for value in (True, False, None, "a", "", (1, 0), [1], {}, {(0, 2, 0): 1}, QUAD):
            for call in (lambda: DISC + value, lambda: DISC - value, lambda: DISC * value,
                         lambda: value + DISC, lambda: value - DISC, lambda: value * DISC):
                with self.assertRaises(TypeError):
                    call()
        for call in (lambda: DISC + 1, lambda: 1 + DISC, lambda: DISC - 0, lambda: 3 * DISC, lambda: DISC < DISC,
                     lambda: DISC // DISC, lambda: DISC % 2, lambda: DISC ** 2, lambda: +DISC, lambda: DISC | DISC):
            with self.assertRaises(TypeError):
                call()

    def test_nothing_changes(self):
        one = Sum(3, dict(HESSE.terms))
        for call in (lambda: one + one, lambda: one - one, lambda: one * one, lambda: -one, one.lowered, one.raised):
            self.assertEqual(call(), call())
            self.assertEqual(one, HESSE)


class Examples(Case, unittest.TestCase):
    def test_document(self):
        self.run_examples("""
>>> DISC = Sum(2, {(0, 2, 0): 1, (1, 0, 1): -4})
>>> [DISC.size, DISC.weight, DISC.order, DISC.lowered().is_zero, DISC.raised().is_zero, DISC.at(QUAD), str(DISC)]
[2, 2, 0, True, True, 8, 'sum of degree 2, size 2 and weight 2 with 2 terms']
>>> LEAD = Sum.entry(3, 0)
>>> [LEAD.raised() == Sum.entry(3, 1), LEAD.raised().lowered().terms, (LEAD * LEAD).raised().terms, Sum.entry(3, 2).order]
[True, {(1, 0, 0, 0): 3}, {(1, 1, 0, 0): 2}, -1]
>>> HESSE = LEAD * Sum.entry(3, 2) * 3 - Sum.entry(3, 1) * Sum.entry(3, 1)
>>> [HESSE.terms, HESSE.lowered().is_zero, HESSE.raised().terms, HESSE.order, HESSE.at(CUBIC)]
[{(0, 2, 0, 0): -1, (1, 0, 1, 0): 3}, True, {(0, 1, 1, 0): -1, (1, 0, 0, 1): 9}, 2, -9]
>>> [str(DISC - DISC), (DISC - DISC).size, len(DISC), list(-DISC), DISC == DISC.terms]
['zero sum of degree 2', None, 2, [((0, 2, 0), -1), ((1, 0, 1), 4)], False]
>>> DISC + Sum.entry(2, 0)
raises InvalidSum
>>> Sum(2, {(1, 1, 0): 1, (0, 0, 2): 1})
raises InvalidSum
""", NAMES)


if __name__ == "__main__":
    unittest.main()
