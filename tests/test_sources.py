import unittest
from fractions import Fraction
from math import gcd

from sourceforms import errors
from sourceforms.count.boxes import box_count, covariant_count
from sourceforms.errors import InvalidForm, InvalidOperation, InvalidRows, InvalidSum, Refused, TooMany
from sourceforms.form.forms import Form
from sourceforms.form.layings import laid, run_rows
from sourceforms.sums import sources as module
from sourceforms.sums.sources import covariant_at, covariant_of, is_source_paper, laid_source
from sourceforms.sums.sources import source_basis, source_of_rows, source_paper
from sourceforms.sums.sums import Sum
from tests.support import CUBIC, LET, LONG, NO_INTEGERS, NO_TUPLES, QUAD, Case, picker, some_form, some_table
from tests.test_sums import all_exponents, some_sum, some_sums, value_at
from tests.test_tables import reckoned_kernel

D = Sum(2, {(1, 0, 1): -4, (0, 2, 0): 1})
FIRST = Sum.entry(2, 0)
NAMES = {**vars(errors), **vars(module), "Sum": Sum, "Form": Form, "QUAD": QUAD, "CUBIC": CUBIC}

NO_SUMS = NO_TUPLES + ((), (1,), "source", {(0, 2, 0): 1}, D.terms, CUBIC)
NO_FORMS = NO_TUPLES[:-1] + ((), (1, 0, -2), "form 1", D)
# A sum that is none, and the zero sum.
NO_SOURCES = (Sum(2, {(1, 0, 1): 1}), Sum(2, {}), Sum.entry(2, 1), Sum.entry(2, 2), Sum(8, {}))
# What is judged can be anything.
NO_PAPERS = NO_TUPLES + (
    (), ("source",) * 2, ("sources",), ["source"], "source", "zero", ("zero", 0), ("term",), ("term", (1, 1, 0)), (True,),
    (0,), (None,), (("source",),), {"source": 1}, ("term", (1, 1, 0), 1, 1), (D,), LONG, (LONG,), ("form", CUBIC),
)


def determinant(table):
    return table[0][0] * table[1][1] - table[0][1] * table[1][0]


def lowered_terms(one):
    """The lowered sum by the words of [4.2], each factor of each term in turn."""
    found = {}
    for exponents, number in one.terms.items():
        factors = [index for index, often in enumerate(exponents) for _ in range(often)]
        for at, index in enumerate(factors):
            if index:
                changed = factors[:at] + [index - 1] + factors[at + 1:]
                key = tuple(changed.count(k) for k in range(one.degree + 1))
                found[key] = found.get(key, 0) + (one.degree - index + 1) * number
    return {key: number for key, number in found.items() if number}


def some_sources(seed, many, most=5):
    """Sources of several degrees and sizes: sums of multiples of those of a basis."""
    pick = picker(seed)
    found = []
    while len(found) < many:
        n, d = pick.randint(1, 6), pick.randint(0, most)
        w = pick.randint(0, n * d // 2)
        total = Sum(n, {})
        for one in source_basis(n, d, w):
            total = total + one * pick.randint(-3, 3)
        if not total.is_zero:
            found.append(total)
    return found


class Papers(Case, unittest.TestCase):
    def test_constants(self):
        self.assertEqual((module.MAX_RUN, module.MOST_UNKNOWN), (12, 300))

    def test_kinds(self):
        for one in some_sums(101, 80) + some_sources(102, 60) + [Sum(n, {}) for n in range(1, 9)]:
            below = lowered_terms(one)
            paper = source_paper(one)
            right = [("zero",)] if one.is_zero else [("source",)] if not below else []
            right += [("term", exponents, number) for exponents, number in below.items()]
            self.assertIn(paper, right)
            for value in right:
                self.assertIs(is_source_paper(one, value), True)
            for value in [("zero",), ("source",)] + [("term", key, 1) for key in one.terms]:
                self.assertIs(is_source_paper(one, value), value in right)
            for _, exponents, number in right if below else ():
                for value in (("term", exponents, number + 1), ("term", exponents, -number), ("term", exponents, None),
                              ("term", list(exponents), number), ("term", exponents[:-1], number), ("term", exponents),
                              ("term", exponents + (0,), number), ["term", exponents, number], ("Term", exponents, number),
                              ("term", exponents, str(number)), ("term", number, exponents)):
                    self.assertIs(is_source_paper(one, value), False)

    def test_true_is_not_one(self):
        one = Sum(2, {(1, 0, 1): 1})
        self.assertIs(is_source_paper(one, ("term", (1, 1, 0), 1)), True)
        for value in (("term", (1, 1, 0), True), ("term", (True, 1, 0), 1), ("term", (1, 1, False), 1)):
            self.assertIs(is_source_paper(one, value), False)

    def test_any_value_is_judged(self):
        for one in (D, Sum(2, {}), Sum(2, {(1, 0, 1): 1})):
            for value in NO_PAPERS:
                self.assertIs(is_source_paper(one, value), False)

    def test_values_behind_a_change_of_x(self):
        """A sum is a source exactly if it does not change if x + t y is put for x."""
        pick = picker(103)
        for one in some_sums(104, 40) + some_sources(105, 40):
            forms = [some_form(pick, one.degree) for _ in range(3)]
            stays = all(one.at(form) == one.at(form.changed(((1, t), (0, 1)))) for form in forms for t in (1, -2, 5))
            self.assertEqual(source_paper(one)[0] != "term", stays)

    def test_long_integers(self):
        one = Sum(3, {(0, 2, 0, 1): LET, (1, 0, 1, 1): 1})
        one = one * LET * LET * LET * LET * LET * LET * LET
        self.assertEqual(is_source_paper(one, source_paper(one)), True)
        # One term of the lowered sum has more than 400 digits, the other one has not.
        mixed = Sum(2, {(1, 0, 1): LET}) * LET * LET * LET * LET * LET * LET
        both = Sum(2, {(1, 0, 1): 1, (0, 2, 0): 1})
        self.assertEqual(is_source_paper(mixed + both, source_paper(mixed + both)), True)
        short = Sum(3, {(0, 1, 1, 0): LET}) * LET * LET * LET * LET * LET * LET + Sum(3, {(1, 0, 0, 1): 5})
        self.assertLess(len(str(source_paper(short + Sum(3, {(0, 1, 1, 0): 1}))[2])), 500)

    def test_shortest_integer(self):
        long = LET * LET * LET * LET * LET * LET * LET
        one = Sum(3, {(0, 2, 0, 1): 1}) * LET * LET * LET * LET * LET * LET * LET + Sum(3, {(0, 1, 2, 0): 2})
        self.assertGreater(len(str(long)), 400)
        self.assertLess(abs(source_paper(one)[2]), 400)

    def test_refuses(self):
        for value in NO_SUMS:
            self.refuses(InvalidSum, {}, source_paper, value)
            self.refuses(InvalidSum, {}, is_source_paper, value, ("source",))


class Covariants(Case, unittest.TestCase):
    def test_entries(self):
        """The entries of the covariant are the powers of t in the value if y + t x is put for y."""
        pick = picker(106)
        for one in some_sources(107, 60):
            run = covariant_of(one)
            self.assertEqual((len(run), run[0], run[-1].raised().is_zero), (one.order + 1, one, True))
            for j, entry in enumerate(run):
                self.assertEqual((entry.degree, entry.size, entry.weight), (one.degree, one.size, one.weight + j))
            form = some_form(pick, one.degree, 5)
            values = [entry.at(form) for entry in run]
            for t in range(-1, one.order + 1):
                told = sum(value * t ** j for j, value in enumerate(values))
                self.assertEqual(one.at(form.changed(((1, 0), (t, 1)))), told)

    def test_changed_forms(self):
        pick = picker(108)
        for one in some_sources(109, 60):
            form, table = some_form(pick, one.degree, 4), some_table(pick, 3)
            there = covariant_at(one, form)
            self.assertEqual(there.degree, one.order)
            self.assertEqual(covariant_at(one, form.changed(table)).entries,
                             tuple(entry * determinant(table) ** one.weight for entry in there.changed(table)))

    def test_products(self):
        pick = picker(110)
        for one in some_sources(111, 60, 3):
            for other in source_basis(one.degree, 2, pick.randint(0, one.degree)):
                form = some_form(pick, one.degree, 4)
                if one.order + other.order <= 40:
                    self.assertEqual(covariant_at(one * other, form), covariant_at(one, form) * covariant_at(other, form))

    def test_edges(self):
        for n in range(1, 9):
            run = covariant_of(Sum.entry(n, 0))
            self.assertEqual(run, tuple(Sum.entry(n, i) for i in range(n + 1)))
            one = Sum(n, {(0,) * (n + 1): -7})
            self.assertEqual(covariant_of(one), (one,))
            form = Form(tuple(range(n + 1)))
            self.assertEqual((covariant_at(one, form), covariant_at(Sum.entry(n, 0), form)), (Form((-7,)), form))
            zero = Form((0,) * (n + 1))
            self.assertEqual(covariant_at(Sum.entry(n, 0), zero), zero)
        five = Sum(8, {(5,) + (0,) * 8: 2})
        form = Form((1, -1, 2, 0, 0, 3, 1, 0, LET))
        self.assertEqual(covariant_at(five, form), form * form * form * form * form * 2)

    def test_greatest(self):
        top = Sum(8, {(12,) + (0,) * 8: 1})
        run = covariant_of(top)
        self.assertEqual((len(run), run[-1].terms), (97, {(0,) * 8 + (12,): 1}))
        wide = laid_source(Sum(8, {(6,) + (0,) * 8: 1}), Sum(8, {(6,) + (0,) * 8: 1}), 28)
        form = Form(tuple(LET - k for k in range(9)))
        self.assertEqual(covariant_at(wide, form).entries[0], wide.at(form))

    def test_refuses(self):
        for value in NO_SUMS:
            self.refuses(InvalidSum, {}, covariant_of, value)
            self.refuses(InvalidSum, {}, covariant_at, value, QUAD)
            self.refuses(InvalidSum, {}, covariant_at, value, None)
        for value in NO_FORMS:
            self.refuses(InvalidForm, {}, covariant_at, D, value)
            self.refuses(InvalidForm, {}, covariant_at, NO_SOURCES[0], value)
        for value in NO_SOURCES:
            self.refuses(Refused, {"reason": ("source",)}, covariant_of, value)
            self.refuses(Refused, {"reason": ("source",)}, covariant_at, value, QUAD)
            self.refuses(Refused, {"reason": ("source",)}, covariant_at, value, CUBIC)
        self.refuses(InvalidOperation, {}, covariant_at, D, CUBIC)
        self.refuses(InvalidOperation, {}, covariant_at, D, Form((1,)))
        six = Sum(8, {(6,) + (0,) * 8: 1})
        self.refuses(InvalidOperation, {}, covariant_at, six, QUAD)
        self.refuses(TooMany, {"limit": 40}, covariant_at, six, Form((1,) * 9))
        self.refuses(TooMany, {"limit": 40}, covariant_at, Sum(7, {(6,) + (0,) * 7: 1}), Form((1,) * 8))


class Laid(Case, unittest.TestCase):
    def test_layings(self):
        pick = picker(112)
        seen = 0
        for one in some_sources(113, 50, 4):
            d = pick.randint(0, 4)
            for other in source_basis(one.degree, d, pick.randint(0, one.degree * d // 2))[:2]:
                if max(one.order, other.order) > 20:
                    continue
                form = some_form(pick, one.degree, 4)
                first, second = covariant_at(one, form), covariant_at(other, form)
                for times in range(min(one.order, other.order) + 1):
                    made = laid_source(one, other, times)
                    self.assertEqual(made.at(form), laid(first, second, times).entries[0])
                    self.assertIn(source_paper(made), (("source",), ("zero",)))
                    if not made.is_zero:
                        self.assertEqual((made.size, made.weight), (one.size + d, one.weight + other.weight + times))
                        self.assertEqual(made.order, one.order + other.order - 2 * times)
                        seen += 1
        self.assertGreater(seen, 60)

    def test_edges(self):
        self.assertEqual(laid_source(FIRST, D, 0), FIRST * D)
        for n in range(1, 9):
            lead = Sum.entry(n, 0)
            for times in range(1, n + 1, 2):
                zero = laid_source(lead, lead, times)
                self.assertEqual(zero, Sum(n, {}))
        self.assertTrue(laid_source(Sum.entry(8, 0) * LET, Sum.entry(8, 0), 8).at(Form((1,) + (0,) * 7 + (1,))) > LET)
        unit = Sum(3, {(0, 0, 0, 0): 2})
        self.assertEqual(laid_source(unit, Sum.entry(3, 0), 0), Sum.entry(3, 0) * 2)

    def test_greatest(self):
        six = Sum(8, {(6,) + (0,) * 8: 1})
        made = laid_source(six, six, 48)
        self.assertEqual((made.size, made.weight, source_paper(made)), (12, 48, ("source",)))
        great = Sum(8, {(11,) + (0,) * 8: 1})
        self.assertEqual(laid_source(great, Sum.entry(8, 0), 8).order, 80)

    def test_refuses(self):
        for value in NO_SUMS:
            self.refuses(InvalidSum, {}, laid_source, value, FIRST, 0)
            self.refuses(InvalidSum, {}, laid_source, value, NO_SOURCES[0], -1)
            self.refuses(InvalidSum, {}, laid_source, FIRST, value, 0)
            self.refuses(InvalidSum, {}, laid_source, NO_SOURCES[0], value, -1)
        for value in NO_INTEGERS + (-1, 97):
            self.refuses_number(value, laid_source, D, FIRST, value)
            self.refuses_number(value, laid_source, NO_SOURCES[0], CUBIC_LEAD, value)
        for value in NO_SOURCES:
            for times in (0, 5, 96):
                self.refuses(Refused, {"reason": ("source",)}, laid_source, value, CUBIC_LEAD, times)
                self.refuses(Refused, {"reason": ("source",)}, laid_source, CUBIC_LEAD, value, times)
        great = Sum(2, {(12, 0, 0): 1})
        self.refuses(InvalidOperation, {}, laid_source, D, CUBIC_LEAD, 0)
        self.refuses(InvalidOperation, {}, laid_source, great, CUBIC_LEAD, 0)
        self.refuses(InvalidOperation, {}, laid_source, D, FIRST, 1)
        self.refuses(InvalidOperation, {}, laid_source, FIRST, D, 1)
        self.refuses(InvalidOperation, {}, laid_source, FIRST, FIRST, 3)
        self.refuses(InvalidOperation, {}, laid_source, great, FIRST, 96)
        self.refuses(TooMany, {"limit": 12}, laid_source, great, FIRST, 2)
        self.refuses(TooMany, {"limit": 12}, laid_source, FIRST, great, 0)


CUBIC_LEAD = Sum.entry(3, 0)


class Bases(Case, unittest.TestCase):
    def check(self, n, d, w):
        found = source_basis(n, d, w)
        order = n * d - 2 * w
        self.assertEqual(len(found), covariant_count(n, d, order) if order >= 0 else 0)
        firsts = [min(one.terms) for one in found]
        self.assertEqual(firsts, sorted(set(firsts)))
        for place, one in enumerate(found):
            self.assertEqual((one.degree, one.size, one.weight, lowered_terms(one)), (n, d, w, {}))
            self.assertEqual(gcd(*one.terms.values()), 1)
            self.assertGreater(one.terms[firsts[place]], 0)
            for other in firsts[:place] + firsts[place + 1:]:
                self.assertNotIn(other, one.terms)
        return found

    def test_by_kernels(self):
        for n in range(1, 6):
            for d in range(5):
                for w in range(n * d + 2):
                    found = self.check(n, d, w)
                    terms, below = all_exponents(n, d, w), all_exponents(n, d, w - 1) if w else []
                    if terms and below:
                        rows = [lowered_terms(Sum(n, {key: 1})) for key in terms]
                        kernel = reckoned_kernel(tuple(tuple(row.get(key, 0) for row in rows) for key in below))
                        self.assertEqual(found, tuple(
                            Sum(n, {key: number for key, number in zip(terms, row) if number}) for row in kernel))

    def test_all_are_sums_of_multiples(self):
        """A source that is known is what its numbers at the first terms tell."""
        pick = picker(114)
        for n, rows in ((4, ((0, 0, 2), (0, 1, 4))), (5, ((0, 0, 4), (0, 1, 2))), (8, ((0, 0, 6), (0, 1, 3), (0, 2, 2)))):
            one = source_of_rows(n, rows)
            other = one * pick.randint(1, 9)
            total = {}
            for base in source_basis(n, other.size, other.weight):
                first = min(base.terms)
                factor = Fraction(other.terms.get(first, 0), base.terms[first])
                for key, number in base.terms.items():
                    total[key] = total.get(key, 0) + factor * number
            self.assertEqual({key: number for key, number in total.items() if number}, other.terms)

    def test_edges(self):
        for n in range(1, 9):
            self.assertEqual(source_basis(n, 0, 0), (Sum(n, {(0,) * (n + 1): 1}),))
            self.assertEqual(source_basis(n, 0, 1), ())
            self.assertEqual(source_basis(n, 0, 96), ())
            self.assertEqual(source_basis(n, 1, 0), (Sum.entry(n, 0),))
            self.assertEqual(source_basis(n, 1, 1), ())
            self.assertEqual(source_basis(n, 12, 0), (Sum(n, {(12,) + (0,) * n: 1}),))
            self.assertEqual(source_basis(n, 12, 1), ())
            self.assertEqual(source_basis(n, 12, 12 * n), ())
        self.assertEqual(source_basis(1, 12, 6), ())
        for one in source_basis(3, 4, 6) + source_basis(2, 2, 2):
            self.assertEqual(one.order, 0)

    def test_greatest(self):
        """The greatest numbers of terms that are let are answered, and those with more are refused."""
        for n, d, w in ((8, 7, 28), (7, 8, 28), (7, 11, 20), (7, 11, 57), (5, 12, 24)):
            self.assertLessEqual(box_count(w, d, n), 300)
            self.check(n, d, w)
        seen = 0
        for n in range(1, 9):
            for d in range(13):
                for w in range(97):
                    if box_count(w, d, n) > 300:
                        seen += 1
                        self.refuses(TooMany, {"limit": 300}, source_basis, n, d, w)
        self.assertGreater(seen, 100)

    def test_refuses(self):
        for value in NO_INTEGERS + (0, 9, -1):
            self.refuses_number(value, source_basis, value, 2, 2)
            self.refuses_number(value, source_basis, value, 13, None)
        for value in NO_INTEGERS + (-1, 13):
            self.refuses_number(value, source_basis, 3, value, 2)
            self.refuses_number(value, source_basis, 3, value, 97)
        for value in NO_INTEGERS + (-1, 97):
            self.refuses_number(value, source_basis, 3, 2, value)
            self.refuses_number(value, source_basis, 8, 12, value)


NO_ROWS = NO_TUPLES + (
    ((0, 0),), ((0, 0, 2, 0),), (0, 0, 2), ((0, 1, 2),), ((1, 0, 0),), ((0, -1, 0),), ((0, 0, -1),), ([0, 0, 2],),
    ((True, 0, 1),), ((0, 0, True),), ((0, False, 1),), ((0, 0, None),), (("0", 0, 1),), ((0, 0, LONG),), ((LONG, 0, 0),),
    ((0, 0, 4),), ((0, 0, 2), (1, 1, 3)), ((0, 0, 3), (1, 0, 1)), ((0, 0, 2), (0, 1, 3)), ((0, 0, 10 ** 59),),
    ((0, 0, 0),) * 13, ((0, 0, 0), (1, 1, 0), (2, 2, 0), (3, 3, 0), (4, 4, 0)),
)


class Rows(Case, unittest.TestCase):
    def test_values(self):
        pick = picker(115)
        for _ in range(60):
            n = pick.randint(1, 8)
            rows, orders, sizes = [], [n], [1]
            for _ in range(pick.randint(0, 5)):
                i, j = pick.randrange(len(orders)), pick.randrange(len(orders))
                k = pick.randint(0, min(orders[i], orders[j]))
                if sizes[i] + sizes[j] <= 7:
                    rows.append((i, j, k))
                    orders.append(orders[i] + orders[j] - 2 * k)
                    sizes.append(sizes[i] + sizes[j])
            one = source_of_rows(n, tuple(rows))
            self.assertIn(source_paper(one), (("source",), ("zero",)))
            if not one.is_zero:
                self.assertEqual((one.degree, one.size, one.order), (n, sizes[-1], orders[-1]))
            if max(orders) <= 40:
                form = some_form(pick, n, 3)
                self.assertEqual(one.at(form), run_rows(tuple(rows), form)[-1].entries[0])

    def test_edges(self):
        for n in range(1, 9):
            self.assertEqual(source_of_rows(n, ()), Sum.entry(n, 0))
            self.assertEqual(source_of_rows(n, ((0, 0, 1),)), Sum(n, {}))
            lead = Sum(n, {(12,) + (0,) * n: 1})
            self.assertEqual(source_of_rows(n, ((0, 0, 0), (1, 1, 0), (2, 2, 0), (3, 2, 0))), lead)
        # A row that is the zero sum has an order all the same: 5 + 5 - 2, then 8 + 5 - 10.
        self.assertEqual(source_of_rows(5, ((0, 0, 1), (1, 0, 5))), Sum(5, {}))
        self.refuses(InvalidRows, {}, source_of_rows, 5, ((0, 0, 1), (1, 0, 6)))
        self.refuses(InvalidRows, {}, source_of_rows, 5, ((0, 0, 1), (1, 1, 9)))
        self.assertEqual(source_of_rows(5, ((0, 0, 1), (1, 1, 8))), Sum(5, {}))
        self.assertEqual(source_of_rows(3, ((0, 0, 0),) * 12), source_of_rows(3, ((0, 0, 0),)))

    def test_greatest(self):
        one = source_of_rows(8, ((0, 0, 2), (1, 1, 4), (1, 2, 6), (3, 3, 7)))
        self.assertEqual(one, Sum(8, {}))
        one = source_of_rows(8, ((0, 0, 2), (1, 1, 4), (1, 2, 6), (3, 3, 8)))
        self.assertEqual((one.size, source_paper(one)), (12, ("source",)))

    def test_refuses(self):
        for value in NO_INTEGERS + (0, 9, -1):
            self.refuses_number(value, source_of_rows, value, ())
            self.refuses_number(value, source_of_rows, value, None)
        for value in NO_ROWS:
            self.refuses(InvalidRows, {}, source_of_rows, 3, value)
        doubled = ((0, 0, 0), (1, 1, 0), (2, 2, 0))
        self.refuses(TooMany, {"limit": 12}, source_of_rows, 3, doubled + ((3, 3, 0),))
        self.refuses(TooMany, {"limit": 12}, source_of_rows, 3, doubled + ((3, 3, 0), (0, 0, 2)))
        self.refuses(TooMany, {"limit": 12}, source_of_rows, 3, doubled + ((3, 2, 0), (4, 0, 0)))
        self.refuses(InvalidRows, {}, source_of_rows, 3, doubled + ((3, 3, 0), (0, 0, 4)))
        self.refuses(InvalidRows, {}, source_of_rows, 3, doubled + ((3, 3, 0), (4, 4, 0)))


class Statements(Case, unittest.TestCase):
    def test_what_is_not_true(self):
        self.assertEqual(source_paper(Sum.entry(3, 1)), ("term", (1, 0, 0, 0), 3))
        middle = Sum(2, {(1, 0, 1): 1})
        self.assertEqual((middle.order, source_paper(middle)[0]), (0, "term"))
        one, other = Sum(2, {(2, 0, 0): 1}), Sum(2, {(2, 0, 0): 2})
        self.assertEqual(covariant_at(one, Form((0, 0, 0))), covariant_at(other, Form((0, 0, 0))))
        turn = source_of_rows(4, ((0, 0, 2), (0, 1, 1)))
        self.assertEqual((turn.order, laid_source(turn, turn, 4)), (6, Sum(4, {})))

    def test_values_of_rows_of_a_form(self):
        self.assertEqual(value_at(source_of_rows(3, ((0, 0, 2),)).terms, CUBIC.entries), -72)

    def test_nothing_changes(self):
        one = Sum(2, dict(D.terms))
        for call in (lambda: source_paper(one), lambda: covariant_of(one), lambda: laid_source(one, one, 0),
                     lambda: covariant_at(one, QUAD), lambda: source_basis(2, 2, 2)):
            self.assertEqual(call(), call())
            self.assertEqual(one, D)

    def test_sums_that_hang_on_values(self):
        pick = picker(116)
        one = some_sum(pick, 3, 3, 4)
        self.assertIs(is_source_paper(one, source_paper(one)), True)


class Examples(Case, unittest.TestCase):
    def test_document(self):
        self.run_examples("""
>>> D = Sum(2, {(1, 0, 1): -4, (0, 2, 0): 1})
>>> [source_paper(D), source_paper(Sum(2, {(1, 0, 1): 1})), is_source_paper(Sum(2, {(1, 0, 1): 1}), ("term", (1, 1, 0), 1)), source_paper(Sum(3, {}))]
[('source',), ('term', (1, 1, 0), 1), True, ('zero',)]
>>> FIRST = Sum.entry(2, 0)
>>> [[entry.terms for entry in covariant_of(FIRST)], covariant_at(D, QUAD).entries, covariant_at(FIRST, QUAD) == QUAD, laid_source(FIRST, FIRST, 2).terms]
[[{(1, 0, 0): 1}, {(0, 1, 0): 1}, {(0, 0, 1): 1}], (8,), True, {(0, 2, 0): -2, (1, 0, 1): 8}]
>>> [[source.terms for source in source_basis(3, 2, 2)], source_basis(2, 1, 1), source_of_rows(2, ((0, 0, 2),)).terms, source_of_rows(3, ()).terms]
[[{(0, 2, 0, 0): 1, (1, 0, 1, 0): -3}], (), {(0, 2, 0): -2, (1, 0, 1): 8}, {(1, 0, 0, 0): 1}]
>>> covariant_of(Sum(2, {(1, 0, 1): 1}))
raises Refused(('source',))
""", NAMES)

    def test_places(self):
        for call in (source_paper, is_source_paper, covariant_of, covariant_at, laid_source, source_basis, source_of_rows):
            self.assertEqual(call.__module__, "sourceforms.sums.sources")


if __name__ == "__main__":
    unittest.main()
