import unittest
from fractions import Fraction
from itertools import combinations_with_replacement, permutations
from math import comb, gcd, lcm, prod

from sourceforms import errors
from sourceforms.errors import InvalidOperation, InvalidSum, TooMany
from sourceforms.form.forms import Form
from sourceforms.sums import exchange as module
from sourceforms.sums.exchange import exchanged, orders_of, root_terms, sum_of_root_terms, value_by_roots
from sourceforms.sums.sources import source_basis, source_paper
from sourceforms.sums.sums import Sum
from tests.support import CUBIC, LET, LONG, NO_INTEGERS, NO_TUPLES, QUAD, Case, picker, rank_of
from tests.test_sources import NO_SUMS, some_sources
from tests.test_sums import all_exponents, some_sum

DISC, HESSE = Sum(2, {(0, 2, 0): 1, (1, 0, 1): -4}), Sum(3, {(0, 2, 0, 0): 1, (1, 0, 1, 0): -3})
NAMES = {**vars(errors), **vars(module), "Sum": Sum, "Form": Form, "QUAD": QUAD, "CUBIC": CUBIC}
BIG = Sum(2, {(9, 0, 0): 1})


def all_boxes_of(n, d, w):
    """All boxes of n integers from 0 to d with a weight, ascending."""
    return sorted(box for box in combinations_with_replacement(range(d, -1, -1), n) if sum(box) == w)


def root_sum(box, roots):
    return sum(prod(root ** member for root, member in zip(roots, order)) for order in set(permutations(box)))


def some_terms(pick, n, d, w, most=9):
    found = {box: pick.randint(-most, most) for box in all_boxes_of(n, d, w)}
    return {box: number for box, number in found.items() if number}


def reckoned_exchange(one):
    """By the words of [7.4], with fractions."""
    n, d = one.degree, one.size
    found = {}
    for box, number in root_terms(one).items():
        key = tuple(box.count(j) for j in range(d + 1))
        factor = prod((Fraction(1, comb(d, j)) for j in box), start=Fraction(number * len(set(permutations(box)))))
        found[key] = factor
    whole = lcm(*(part.denominator for part in found.values()))
    rows = {key: int(part * whole) for key, part in sorted(found.items())}
    shared = gcd(*rows.values())
    if list(rows.values())[0] < 0:
        shared = -shared
    return Sum(d, {key: number // shared for key, number in rows.items()})


class Orders(Case, unittest.TestCase):
    def test_all(self):
        for many in range(7):
            for box in combinations_with_replacement((5, 3, 2, 0), many):
                self.assertEqual(orders_of(box), len(set(permutations(box))))
        self.assertEqual((orders_of(()), orders_of((60,)), orders_of((0,) * 12)), (1, 1, 1))
        self.assertEqual(orders_of(tuple(range(60, 48, -1))), 479001600)
        self.assertEqual(orders_of((7,) * 6 + (2,) * 6), 924)

    def test_refuses(self):
        for value in NO_TUPLES + ((1, 2), (3, 1, 2), (61,), (61, 1), (-1,), (1, -1), (0,) * 13, (True,), (2, False),
                                  (None,), ("1",), (2, (1,)), [2, 1], (LONG,), (10 ** 99, 1)):
            self.refuses(InvalidOperation, {}, orders_of, value)


class RootTerms(Case, unittest.TestCase):
    def test_constant(self):
        self.assertEqual(module.MAX_ROOTED, 8)

    def test_by_roots(self):
        """The terms times the root sums are the value at the product of the lines of the roots."""
        pick = picker(201)
        for _ in range(60):
            n, d = pick.randint(1, 5), pick.randint(0, 5)
            one = some_sum(pick, n, d, pick.randint(0, n * d))
            terms = root_terms(one)
            self.assertEqual(list(terms), sorted(terms))
            self.assertNotIn(0, terms.values())
            for box in terms:
                self.assertIn(box, all_boxes_of(n, d, one.weight))
            for _ in range(3):
                roots, lead = tuple(pick.randint(-9, 9) for _ in range(n)), pick.randint(-3, 3)
                form = Form((lead,))
                for root in roots:
                    form = form * Form((1, -root))
                told = lead ** d * sum(number * root_sum(box, roots) for box, number in terms.items())
                self.assertEqual(told, one.at(form))
                self.assertEqual(value_by_roots(one, lead, roots), told)

    def test_single_entries(self):
        for n in range(1, 9):
            for i in range(n + 1):
                self.assertEqual(root_terms(Sum.entry(n, i)), {(1,) * i + (0,) * (n - i): (-1) ** i})

    def test_products_of_two_entries(self):
        """c_i c_j tells (-1) ** (i + j) times root sums of boxes of twos and ones, with numbers of choices."""
        for n in range(2, 9):
            for i in range(1, n + 1):
                for j in range(i + 1):
                    wanted = {}
                    for twos in range(max(0, i + j - n), j + 1):
                        ones = i + j - 2 * twos
                        box = (2,) * twos + (1,) * ones + (0,) * (n - twos - ones)
                        wanted[box] = (-1) ** (i + j) * comb(ones, i - twos)
                    self.assertEqual(root_terms(Sum.entry(n, i) * Sum.entry(n, j)), wanted)

    def test_edges(self):
        for n in range(1, 9):
            self.assertEqual(root_terms(Sum(n, {})), {})
            self.assertEqual(root_terms(Sum(n, {(0,) * (n + 1): -5})), {(0,) * n: -5})
            self.assertEqual(root_terms(Sum(n, {(8,) + (0,) * n: LET})), {(0,) * n: LET})
            self.assertEqual(root_terms(Sum(n, {(0,) * n + (8,): 1})), {(8,) * n: 1})

    def test_sources(self):
        """A source is a sum of root terms that stays if a number is added to all roots, and no other sum is."""
        pick = picker(202)
        for one in some_sources(203, 30, 4) + [some_sum(pick, 4, 3, w) for w in range(2, 9)]:
            if one.is_zero:
                continue
            terms = root_terms(one)
            stays = True
            for _ in range(4):
                roots = [pick.randint(-4, 4) for _ in range(one.degree)]
                values = [sum(number * root_sum(box, [root + t for root in roots]) for box, number in terms.items())
                          for t in (0, 1, -3)]
                stays = stays and len(set(values)) == 1
            self.assertEqual(stays, source_paper(one) == ("source",))

    def test_back(self):
        pick = picker(204)
        for _ in range(60):
            n, d = pick.randint(1, 8), pick.randint(0, 8)
            w = pick.randint(0, min(n * d, 12))
            one = some_sum(pick, n, d, w)
            self.assertEqual(sum_of_root_terms(n, d, root_terms(one)), one)
            terms = some_terms(pick, n, d, w)
            self.assertEqual(root_terms(sum_of_root_terms(n, d, terms)), terms)

    def test_greatest(self):
        keys = all_exponents(8, 8, 32)
        one = Sum(8, {key: (-1) ** at * (LET - at) for at, key in enumerate(keys)})
        terms = root_terms(one)
        self.assertEqual((len(keys), len(terms) > 500), (526, True))
        short = {box: at * 7 % 13 - 6 or 1 for at, box in enumerate(all_boxes_of(8, 8, 32))}
        self.assertEqual(root_terms(sum_of_root_terms(8, 8, short)), short)

    def test_refuses(self):
        for value in NO_SUMS:
            self.refuses(InvalidSum, {}, root_terms, value)
        self.refuses(TooMany, {"limit": 8}, root_terms, BIG)
        self.refuses(TooMany, {"limit": 8}, root_terms, Sum(8, {(0,) * 8 + (12,): 1}))


NO_TERMS = (
    None, True, 3, "a", (), [], [((1, 1), 1)], (((1, 1), 1),), DISC, QUAD, {(1,): 1}, {(1, 1, 0): 1}, {(): 1}, {3: 1},
    {"11": 1}, {None: 1}, {(1, 2): 1}, {(3, 0): 1}, {(2, -1): 1}, {(2, 0): 0}, {(2, 0): True}, {(2, 0): False},
    {(2, 0): None}, {(2, 0): "1"}, {(2, 0): LONG}, {(2, 0): -LONG}, {(2, 0): (1,)}, {(True, 1): 1}, {(1, False): 1},
    {(2, 0): 1, (1, 0): 1}, {(1, 1): 1, (2, 1): 1}, {(2, 0): 1, (1, 1): 0}, {(2, None): 1}, {(LONG, 0): 1}, {(2, 0): 1, 2: 1},
)


class Sums(Case, unittest.TestCase):
    def test_values(self):
        pick = picker(205)
        for _ in range(40):
            n, d = pick.randint(1, 5), pick.randint(0, 5)
            terms = some_terms(pick, n, d, pick.randint(0, n * d))
            one = sum_of_root_terms(n, d, terms)
            roots = tuple(pick.randint(-9, 9) for _ in range(n))
            self.assertEqual(value_by_roots(one, 2, roots), 2 ** d * sum(k * root_sum(box, roots) for box, k in terms.items()))
            if terms:
                self.assertEqual((one.degree, one.size, one.weight), (n, d, sum(list(terms)[0])))

    def test_edges(self):
        for n in range(1, 9):
            for d in range(9):
                self.assertEqual(sum_of_root_terms(n, d, {}), Sum(n, {}))
                self.assertEqual(sum_of_root_terms(n, d, {(0,) * n: LET}), Sum(n, {(d,) + (0,) * n: LET}))
                self.assertEqual(sum_of_root_terms(n, d, {(d,) * n: 1}).terms,
                                 {(0,) * n + (d,): 1 if n * d % 2 == 0 else -1})
        backwards = {(1, 1): -2, (2, 0): 1}
        self.assertEqual(sum_of_root_terms(2, 2, dict(reversed(list(backwards.items())))), DISC)
        self.assertEqual(backwards, {(1, 1): -2, (2, 0): 1})

    def test_refuses(self):
        for value in NO_INTEGERS + (0, 9, -1):
            self.refuses_number(value, sum_of_root_terms, value, 2, {})
            self.refuses_number(value, sum_of_root_terms, value, 9, None)
        for value in NO_INTEGERS + (-1, 9):
            self.refuses_number(value, sum_of_root_terms, 2, value, {})
            self.refuses_number(value, sum_of_root_terms, 2, value, None)
        for value in NO_TERMS:
            self.refuses(InvalidSum, {}, sum_of_root_terms, 2, 2, value)
        self.refuses(InvalidSum, {}, sum_of_root_terms, 2, 1, {(2, 0): 1})
        self.refuses(InvalidSum, {}, sum_of_root_terms, 2, 0, {(1, 0): 1})
        self.refuses(InvalidSum, {}, sum_of_root_terms, 3, 2, {(2, 0): 1})


class Values(Case, unittest.TestCase):
    def test_edges(self):
        self.assertEqual((value_by_roots(Sum(3, {}), 5, (1, 2, 3)), value_by_roots(DISC, 0, (1, 2))), (0, 0))
        self.assertEqual(value_by_roots(Sum(3, {(0, 0, 0, 0): 7}), 0, (1, 2, 3)), 7)
        self.assertEqual(value_by_roots(DISC, LET, (LET, -LET)), 4 * LET ** 4)
        self.assertEqual(value_by_roots(Sum.entry(1, 1), 3, (-4,)), 12)
        for one in (DISC, HESSE):
            for order in permutations((5, -2, 7)[:one.degree]):
                self.assertEqual(value_by_roots(one, 1, order), value_by_roots(one, 1, (5, -2, 7)[:one.degree]))

    def test_refuses(self):
        for value in NO_SUMS:
            self.refuses(InvalidSum, {}, value_by_roots, value, None, None)
        for value in NO_INTEGERS:
            self.refuses_number(value, value_by_roots, BIG, value, (1,))
            self.refuses_number(value, value_by_roots, DISC, value, (1, 2))
        for value in NO_TUPLES + ((), (1,), (1, 2, 3), (1, True), (1, None), (1, "2"), (1, LONG), (1, (2,)), [1, 2]):
            self.refuses(InvalidOperation, {}, value_by_roots, DISC, 1, value)
            self.refuses(InvalidOperation, {}, value_by_roots, BIG, 1, value)
            self.refuses(InvalidOperation, {}, value_by_roots, Sum(2, {}), 1, value)
        self.refuses(TooMany, {"limit": 8}, value_by_roots, BIG, 1, (1, 2))
        self.assertEqual(value_by_roots(Sum(2, {(8, 0, 0): 1}), 2, (1, 2)), 256)


class Exchanged(Case, unittest.TestCase):
    def test_by_fractions(self):
        pick = picker(206)
        for _ in range(60):
            n, d = pick.randint(1, 6), pick.randint(1, 6)
            one = some_sum(pick, n, d, pick.randint(0, n * d))
            if one.is_zero:
                continue
            other = exchanged(one)
            self.assertEqual(other, reckoned_exchange(one))
            self.assertEqual((other.degree, other.size, other.weight, other.order), (d, n, one.weight, one.order))
            self.assertEqual(exchanged(one * -3), other)
            self.assertEqual(source_paper(other)[0], source_paper(one)[0])

    def test_sources_to_all_sources(self):
        """A basis of sources becomes as many sources, which are no multiples and do not hang on one another."""
        for n, d, w in ((4, 6, 6), (5, 4, 10), (6, 4, 8), (3, 8, 6), (8, 3, 9), (8, 8, 8)):
            here, there = source_basis(n, d, w), source_basis(d, n, w)
            self.assertEqual(len(here), len(there))
            rows = []
            for one in here:
                other = exchanged(one)
                left = {key: Fraction(number) for key, number in other.terms.items()}
                parts = []
                for base in there:
                    first = min(base.terms)
                    parts.append(Fraction(other.terms.get(first, 0), base.terms[first]))
                    for key, number in base.terms.items():
                        left[key] = left.get(key, 0) - parts[-1] * number
                self.assertFalse(any(left.values()))
                rows.append(parts)
            self.assertEqual(rank_of(rows), len(here))

    def test_edges(self):
        for n in range(1, 9):
            for d in range(1, 9):
                lead = Sum(n, {(d,) + (0,) * n: -4})
                self.assertEqual(exchanged(lead), Sum(d, {(n,) + (0,) * d: 1}))
        for i in range(9):
            self.assertEqual(exchanged(Sum.entry(8, i)), Sum(1, {(8 - i, i): 1}))

    def test_what_is_not_true(self):
        for one in (HESSE * Sum.entry(3, 0), DISC * Sum.entry(2, 0)):
            self.assertEqual(source_paper(one), ("source",))
        self.assertEqual(exchanged(exchanged(DISC)), DISC)
        twice = [one for one in some_sources(207, 60) if one.size and exchanged(exchanged(one)) not in
                 (reckoned_primitive(one), -reckoned_primitive(one))]
        self.assertTrue(twice)
        self.assertEqual(set(root_terms(Sum.entry(3, 0)).values()), {1})
        self.assertEqual(value_by_roots(Sum.entry(2, 1), 1, (1, 2)), -3)

    def test_greatest(self):
        one = Sum(8, {key: at + 1 for at, key in enumerate(all_exponents(8, 8, 32))})
        other = exchanged(one)
        self.assertEqual((other.degree, other.size, other.weight, gcd(*other.terms.values())), (8, 8, 32, 1))

    def test_refuses(self):
        for value in NO_SUMS:
            self.refuses(InvalidSum, {}, exchanged, value)
        for n in range(1, 9):
            self.refuses(InvalidOperation, {}, exchanged, Sum(n, {}))
            self.refuses(InvalidOperation, {}, exchanged, Sum(n, {(0,) * (n + 1): 1}))
        self.refuses(TooMany, {"limit": 8}, exchanged, BIG)
        self.refuses(TooMany, {"limit": 8}, exchanged, Sum(8, {(0,) * 8 + (12,): 1}))


def reckoned_primitive(one):
    shared = gcd(*one.terms.values())
    return Sum(one.degree, {key: number // shared for key, number in one.terms.items()})


class Examples(Case, unittest.TestCase):
    def test_document(self):
        self.run_examples("""
>>> DISC, HESSE = Sum(2, {(0, 2, 0): 1, (1, 0, 1): -4}), Sum(3, {(0, 2, 0, 0): 1, (1, 0, 1, 0): -3})
>>> [orders_of((2, 1, 1, 0)), orders_of(()), root_terms(DISC), root_terms(HESSE), root_terms(Sum.entry(3, 2))]
[12, 1, {(1, 1): -2, (2, 0): 1}, {(1, 1, 0): -1, (2, 0, 0): 1}, {(1, 1, 0): 1}]
>>> [value_by_roots(DISC, 3, (1, 4)), DISC.at(Form((3, -15, 12))), value_by_roots(HESSE, 1, (0, 0, 5)), value_by_roots(HESSE, -2, (1, 2, 3))]
[81, 81, 25, 12]
>>> [exchanged(DISC) == DISC, exchanged(HESSE).terms, exchanged(HESSE).order, exchanged(Sum.entry(3, 2)).terms]
[True, {(1, 2, 0): 1, (2, 0, 1): -4}, 2, {(1, 2): 1}]
>>> [sum_of_root_terms(2, 2, {(2, 0): 1, (1, 1): -2}) == DISC, sum_of_root_terms(2, 2, {(1, 1): 1}).terms, sum_of_root_terms(3, 1, {}).is_zero]
[True, {(1, 0, 1): 1}, True]
>>> sum_of_root_terms(2, 1, {(2, 0): 1})
raises InvalidSum
>>> exchanged(Sum(3, {}))
raises InvalidOperation
""", NAMES)

    def test_places(self):
        for call in (orders_of, root_terms, sum_of_root_terms, value_by_roots, exchanged):
            self.assertEqual(call.__module__, "sourceforms.sums.exchange")


if __name__ == "__main__":
    unittest.main()
