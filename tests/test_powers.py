import unittest
from fractions import Fraction
from itertools import combinations
from math import comb, gcd, lcm

from sourceforms import errors
from sourceforms.errors import InvalidForm, InvalidOperation, InvalidPoint, Refused
from sourceforms.form.forms import Form, line_of
from sourceforms.power import powers as module
from sourceforms.power.killers import does_kill, killer_ranks, killers
from sourceforms.power.lines import has_root_twice, split_points
from sourceforms.power.powers import is_powers_paper, least_powers, monomial_powers, numbers_at, powers_paper, powers_sum
from tests.support import BENT, CUBIC, FOUR, LET, NO_FORMS, NO_INTEGERS, NO_PAPERS, QUAD, SIX, Case, picker, product_of
from tests.support import some_change, some_form, some_point, some_points, whole_form
from tests.test_forms import NO_POINTS, value_of
from tests.test_killers import common_root, some_forms
from tests.test_ratios import NO_RATIOS

NAMES = {**vars(errors), **vars(module), "Form": Form, "QUAD": QUAD, "CUBIC": CUBIC, "FOUR": FOUR, "SIX": SIX, "BENT": BENT}
TERMS = (((2, 1), (1, 0)), ((1, 1), (0, 1)), ((-1, 2), (1, 1)), ((-1, 2), (1, -1)))


def summed(degree, terms):
    """The sum of powers, multiplied by ratios, by fractions."""
    total = [Fraction(0)] * (degree + 1)
    for (top, bottom), (a, b) in terms:
        for i in range(degree + 1):
            total[i] += Fraction(top, bottom) * comb(degree, i) * a ** (degree - i) * b ** i
    return total


def solved(form, points):
    """The ratios of a sum of powers of points, by fractions; they are told in one way only."""
    n = form.degree
    columns = [[Fraction(comb(n, i) * a ** (n - i) * b ** i) for i in range(n + 1)] for a, b in points]
    rows = [list(row) + [Fraction(entry)] for row, entry in zip(zip(*columns), form)] if points else [[Fraction(e)] for e in form]
    done = 0
    for column in range(len(points)):
        at = next(k for k in range(done, len(rows)) if rows[k][column])
        rows[done], rows[at] = rows[at], rows[done]
        rows[done] = [part / rows[done][column] for part in rows[done]]
        rows = [row if k == done else [a - row[column] * b for a, b in zip(row, rows[done])] for k, row in enumerate(rows)]
        done += 1
    if any(row[-1] for row in rows[done:]):
        return None
    return tuple((row[-1].numerator, row[-1].denominator) for row in rows[:done])


def least_killer(form):
    r = max(killer_ranks(form))
    return r, killers(form, r)[0]


def is_split(form, most=40):
    """Whether a form is a number times a product of different lines, all points with integers up to a bound tried."""
    left = form
    for a in range(most + 1):
        for b in range(-most, most + 1):
            if (a, b) > (0, 0) and gcd(a, b) == 1 and not value_of(left.entries, a, b):
                left = left.quotient(line_of((a, b)))
    return left.degree == 0


class Least(Case, unittest.TestCase):
    def test_by_killers(self):
        for form in some_forms(841, 90, 9):
            if form.is_zero:
                self.assertEqual(least_powers(form), 0)
                continue
            n = form.degree
            r, g = least_killer(form)
            twice = g.degree > 1 and (common_root(g.derived(1, 0), g.derived(0, 1)))
            self.assertEqual(least_powers(form), n + 2 - r if twice and 2 * r < n + 2 else r)

    def test_sums_of_few(self):
        """A sum of so few powers that no other way is shorter."""
        pick = picker(842)
        for n in (1, 2, 3, 5, 8, 20, 40):
            for many in range(0, (n + 1) // 2 + 1)[:6]:
                points = some_points(pick, many, 9)
                form = sum((Form.power(point, n) * pick.choice((1, -2, 5)) for point in points), Form((0,) * (n + 1)))
                self.assertEqual(least_powers(form), many)

    def test_repeated_lines(self):
        for n in (3, 4, 7, 12, 40):
            near = Form((0, 1) + (0,) * (n - 1))
            self.assertEqual(least_powers(near), n)
        pick = picker(843)
        for a, b in ((1, 2), (3, 3), (2, 5), (1, 12), (7, 4)):
            form = product_of([Form((1, 0))] * a + [Form((0, 1))] * b)
            self.assertEqual(least_powers(form), max(a, b) + 1)
            self.assertEqual(least_powers(form.changed(some_change(pick))), max(a, b) + 1)

    def test_changed_forms(self):
        pick = picker(844)
        for form in some_forms(845, 30, 7):
            self.assertEqual(least_powers(form), least_powers(form.changed(some_change(pick))))

    def test_greatest(self):
        pick = picker(846)
        form = some_form(pick, 40, LET)
        self.assertEqual(self.soon(6, least_powers, form), 21)
        self.assertEqual(self.soon(6, least_powers, some_form(pick, 39, LET)), 20)
        small = some_form(pick, 8)
        self.soon(2, lambda: [least_powers(small) for _ in range(100)])

    def test_refuses(self):
        for value in NO_FORMS:
            self.refuses(InvalidForm, {}, least_powers, value)


class Numbers(Case, unittest.TestCase):
    def test_by_fractions(self):
        pick = picker(847)
        seen = {True: 0, False: 0}
        for form in some_forms(848, 70, 6):
            for many in range(form.degree + 2):
                points = tuple(some_points(pick, many, 5))
                wanted = solved(form, points)
                self.assertEqual(numbers_at(form, points), wanted)
                seen[wanted is None] += 1
        self.assertGreater(min(seen.values()), 40)

    def test_made_of_powers(self):
        pick = picker(849)
        for _ in range(40):
            n = pick.randint(0, 9)
            points = tuple(some_points(pick, pick.randint(0, n + 1), 8))
            numbers = tuple(pick.randint(-3, 3) for _ in points)
            form = sum((Form.power(point, n) * k for point, k in zip(points, numbers)), Form((0,) * (n + 1)))
            self.assertEqual(numbers_at(form, points), tuple((k, 1) for k in numbers))

    def test_edges(self):
        self.assertEqual(numbers_at(Form((0, 0, 0)), ()), ())
        self.assertEqual(numbers_at(QUAD, ()), None)
        self.assertEqual(numbers_at(Form((7,)), ((3, -5),)), ((7, 1),))
        self.assertEqual(numbers_at(Form((7,)), ()), None)
        self.assertEqual(numbers_at(Form((0, 0)), ((1, 0), (0, 1))), ((0, 1), (0, 1)))
        points = ((LET, 1), (-1 + LET, LET), (0, 1), (1, -LET))
        self.assertEqual(numbers_at(CUBIC, points), solved(CUBIC, points))

    def test_greatest(self):
        pick = picker(850)
        form, points = some_form(pick, 40, LET), tuple(some_points(pick, 41, LET))
        found = self.soon(6, numbers_at, form, points)
        self.assertEqual(len(found), 41)
        self.assertIs(self.soon(6, is_powers_paper, form, 41, ("powers", tuple(zip(found, points)))), True)
        self.assertIsNone(self.soon(6, numbers_at, form, points[:40]))
        small, few = some_form(pick, 8), tuple(some_points(pick, 9))
        self.soon(2, lambda: [numbers_at(small, few) for _ in range(100)])

    def test_refuses(self):
        for value in NO_FORMS:
            self.refuses(InvalidForm, {}, numbers_at, value, ())
            self.refuses(InvalidForm, {}, numbers_at, value, None)
        for value in NO_POINTS:
            if value not in ((), ((1, 0), (0, 1))):
                self.refuses(InvalidPoint, {}, numbers_at, CUBIC, value)
            self.refuses(InvalidPoint, {}, numbers_at, CUBIC, ((1, 0), value))
        for value in (((1, 0), (1, 0)), ((1, 0), (0, 1), (1, 0)), tuple((1, k) for k in range(5)), [(1, 0)], ((1, 0), [0, 1])):
            self.refuses(InvalidPoint, {}, numbers_at, CUBIC, value)
        self.assertIsNotNone(numbers_at(CUBIC, tuple((1, k) for k in range(4))))
        self.refuses(InvalidPoint, {}, numbers_at, Form((1,)), ((1, 0), (0, 1)))


class Sums(Case, unittest.TestCase):
    def test_by_fractions(self):
        pick = picker(851)
        whole = 0
        for _ in range(120):
            n = pick.randint(0, 6)
            terms = tuple((pick.choice(((1, 1), (-3, 1), (1, 2), (-2, 3), (0, 1), (5, 6))), some_point(pick, 3))
                          for _ in range(pick.randint(0, 6)))
            total = summed(n, terms)
            bottom = lcm(*[part.denominator for part in total])
            if bottom == 1:
                whole += 1
                self.assertEqual(powers_sum(n, terms), Form(tuple(int(part) for part in total)))
            else:
                self.refuses(Refused, {"reason": ("bottom", bottom)}, powers_sum, n, terms)
        self.assertGreater(whole, 20)

    def test_edges(self):
        self.assertEqual(powers_sum(0, ()), Form((0,)))
        self.assertEqual(powers_sum(40, ()), Form((0,) * 41))
        self.assertEqual(powers_sum(0, (((1, 2), (3, 4)), ((1, 2), (1, 0)))), Form((1,)))
        self.assertEqual(powers_sum(2, (((1, 1), (1, 1)),) * 50), Form.power((1, 1), 2) * 50)
        self.assertEqual(powers_sum(2, (((1, 2), (1, 1)), ((-1, 2), (1, 1)))), Form((0, 0, 0)))
        self.assertEqual(powers_sum(3, TERMS), CUBIC)
        self.refuses(Refused, {"reason": ("bottom", LET)}, powers_sum, 1, (((1, LET), (1, 0)),))
        self.refuses(Refused, {"reason": ("bottom", LET * (LET - 1))}, powers_sum, 0, (((1, LET), (1, 0)), ((1, LET - 1), (1, 0))))

    def test_greatest(self):
        pick = picker(852)
        terms = tuple(((pick.randint(-LET, LET), 1), point) for point in some_points(pick, 50, LET))
        form = self.soon(4, powers_sum, 40, terms)
        self.assertEqual(form.entries, tuple(int(part) for part in summed(40, terms)))

    def test_refuses(self):
        for value in NO_INTEGERS + (-1, 41):
            self.refuses_number(value, powers_sum, value, ())
            self.refuses_number(value, powers_sum, value, None)
        wrong = [None, True, 1, "a", [], [((1, 1), (1, 0))], {}, (1,), ((1, 1),), (((1, 1),),), (((1, 1), (1, 0), 1),), ([(1, 1), (1, 0)],),
                 (((1, 1), (1, 0)),) * 51, (((1, 1), (1, 0)), None), QUAD, (QUAD,)]
        wrong += [((value, (1, 0)),) for value in NO_RATIOS] + [(((1, 1), value),) for value in NO_POINTS]
        for value in wrong:
            self.refuses(InvalidOperation, {}, powers_sum, 2, value)


class Papers(Case, unittest.TestCase):
    def forms(self):
        pick = picker(853)
        found = some_forms(854, 60, 7)
        for n in (2, 3, 4, 6, 7, 8):
            for many in (1, 2, 3):
                found.append(sum((Form.power(point, n) * pick.choice((1, -2)) for point in some_points(pick, many)), Form((0,) * (n + 1))))
            found.append(Form((0, 1) + (0,) * (n - 1)))
        return found + [Form((1, 0, 0, 0, 1)), Form((1, 0, 1)), Form((0, 1, 0)), Form((1, 0, 0, 0, 0, 0, 1))]

    def test_papers(self):
        words = {"powers": 0, "rank": 0, "killer": 0, "open": 0}
        for form in self.forms():
            n = form.degree
            for many in sorted({0, 1, 2, 3, 4, n // 2, n // 2 + 1, n - 1, n, n + 1, 50} - {-1}):
                paper = powers_paper(form, many)
                words[paper[0]] += 1
                self.assertIs(is_powers_paper(form, many, paper), True)
                self.judge(form, many, paper)
        self.assertGreater(min(words.values()), 20)

    def judge(self, form, many, paper):
        """Each word is judged by what [15.4] says of it."""
        n = form.degree
        if paper[0] == "powers":
            terms = paper[1]
            self.assertLessEqual(len(terms), many)
            self.assertEqual([part for part in summed(n, terms)], list(form.entries))
            self.assertEqual(len({point for _, point in terms}), len(terms))
            self.assertTrue(all(ratio[0] for ratio, _ in terms))
        for degree in range(-1, n + 2):
            right = 0 <= degree <= n and killer_ranks(form)[degree] > many
            self.assertIs(is_powers_paper(form, many, ("rank", degree)), right)
        if form.is_zero:
            self.assertEqual(paper, ("powers", ()))
            for value in (("open",), ("killer", Form((1,))), ("killer", Form((0,))), ("killer", Form((1, 0))), ("killer", QUAD)):
                self.assertIs(is_powers_paper(form, many, value), False)
            return
        r, g = least_killer(form)
        split = is_split(g) if all(abs(part) <= 40 for part in g) else split_points(g.entries) is not None
        self.assertIs(is_powers_paper(form, many, ("open",)), n + 2 - r <= many <= n and not split)
        for one in (g, g * -3, g * LET):
            self.assertIs(is_powers_paper(form, many, ("killer", one)), r <= many < n + 2 - r and not split)
        wrong = whole_form(g.entries[:-1] + (g.entries[-1] + 1,))
        for one in (Form((0,) * (r + 1)), g * Form((1, 0)), wrong, Form((1,))):
            self.assertIs(is_powers_paper(form, many, ("killer", one)), self.kills(form, many, r, one))

    def kills(self, form, many, r, one):
        n = form.degree
        if one.is_zero or one.degree != r or not r <= many < n + 2 - r or not does_kill(one, form):
            return False
        return not is_split(one)

    def test_terms_are_judged(self):
        good = ("powers", TERMS)
        for many in (4, 5, 50):
            self.assertIs(is_powers_paper(CUBIC, many, good), True)
            self.assertIs(is_powers_paper(CUBIC, many, ("powers", TERMS[::-1])), True)
        self.assertIs(is_powers_paper(CUBIC, 3, good), False)
        (ratio, point), rest = TERMS[0], TERMS[1:]
        for term in (((4, 2), point), ((2, -1), point), ((2, 1), (-1, 0)), ((2, 1), (2, 0)), ((3, 1), point), ((2, 1), (1, 2)),
                     (ratio,), (ratio, point, 1), [ratio, point], (point, ratio), None, 1, ((True, 1), point), ((2, True), point),
                     (ratio, (True, 0)), (ratio, (1, False)), (2, point), (list(ratio), point), (ratio, list(point))):
            self.assertIs(is_powers_paper(CUBIC, 50, ("powers", (term,) + rest)), False)
        more = TERMS + (((0, 1), (1, 5)),)
        self.assertIs(is_powers_paper(CUBIC, 50, ("powers", more)), False)
        twice = (((1, 1), (1, 0)),) * 2 + rest
        self.assertIs(is_powers_paper(CUBIC, 50, ("powers", twice)), False)
        self.assertIs(is_powers_paper(CUBIC, 50, ("powers", rest)), False)
        self.assertIs(is_powers_paper(CUBIC, 50, ("powers", ())), False)
        self.assertIs(is_powers_paper(CUBIC, 50, ("powers", list(TERMS))), False)

    def test_more_points_than_entries(self):
        """More powers than the degree and one: the ratios are not told by the points any more."""
        pick = picker(855)
        for n in (0, 1, 3, 6):
            points = some_points(pick, n + 9, 30)
            numbers = [(pick.choice((1, -2, 5)), pick.choice((1, 3))) for _ in points[n + 1:]]
            form = some_form(pick, n)
            left = [Fraction(entry) - part for entry, part in zip(form, summed(n, list(zip(numbers, points[n + 1:]))))]
            bottom = lcm(*[part.denominator for part in left])
            first = solved(Form(tuple(int(part * bottom) for part in left)), points[:n + 1])
            first = [(Fraction(*part) / bottom) for part in first]
            if all(first):
                terms = tuple(zip([(part.numerator, part.denominator) for part in first] + numbers, points))
                self.assertEqual(summed(n, terms), list(form.entries))
                self.assertIs(is_powers_paper(form, len(terms), ("powers", terms)), True)
                self.assertIs(is_powers_paper(form, len(terms) - 1, ("powers", terms)), False)
                self.assertIs(is_powers_paper(form, 50, ("powers", terms[::-1])), True)
                worse = terms[:-1] + (((7, 1), terms[-1][1]),)
                self.assertIs(is_powers_paper(form, 50, ("powers", worse)), False)

    def test_longer_integers(self):
        k = 10 ** 80
        terms = (((1, k), (k, 1)), ((-k ** 3, 1), (1, 0)))
        total = summed(4, terms)
        self.assertEqual(total[0], 0)
        form = whole_form([int(part * k) for part in total])
        longer = tuple(((Fraction(*ratio) * k).as_integer_ratio(), point) for ratio, point in terms)
        self.assertIs(is_powers_paper(form, 2, ("powers", longer)), True)
        self.assertIs(is_powers_paper(form, 2, ("powers", terms)), False)
        self.assertIs(is_powers_paper(CUBIC, 2, ("killer", whole_form((k, k, k)))), True)
        self.assertIs(is_powers_paper(CUBIC, 2, ("killer", whole_form((k, k, k + 1)))), False)
        self.assertIs(is_powers_paper(CUBIC, 1, ("rank", k)), False)

    def test_great_points(self):
        pick = picker(856)
        for n in (4, 7, 10):
            points = some_points(pick, n // 2, LET // 3)
            form = sum((Form.power(point, n) * pick.choice((1, -7)) for point in points), Form((0,) * (n + 1)))
            paper = self.soon(4, powers_paper, form, n // 2)
            self.assertEqual((paper[0], {point for _, point in paper[1]}), ("powers", set(points)))
            self.assertIs(is_powers_paper(form, n // 2, paper), True)

    def test_roots_that_many_primes_join(self):
        """Points that are equal modulo the first primes from 43 on, and ends that these divide."""
        step = 43 * 47 * 53 * 59 * 61 * 67 * 71
        for points in (((1, 0), (1, step)), ((0, 1), (step, 1), (2 * step, 1)), ((step, 1), (1, step)), ((1, step), (1, 2 * step), (1, 5))):
            row = product_of(map(line_of, points)).entries
            self.assertIs(has_root_twice(row), False)
            self.assertEqual(set(split_points(row)), set(points))
        self.assertIsNone(split_points((1, 0, -step * step * 2)))
        self.assertIsNone(split_points((step, 0, 1)))
        self.assertIs(has_root_twice((1, 2 * step, step * step)), True)
        self.assertIsNone(split_points((0, 0, 1, 5)))
        self.assertEqual(split_points((7,)), [])

    def test_split_or_not(self):
        pick = picker(857)
        for _ in range(150):
            points = some_points(pick, pick.randint(1, 6), pick.choice((3, 12, LET)))
            form = product_of(map(line_of, points)) * pick.choice((1, -6, 43))
            self.assertEqual(sorted(split_points(form.entries)), sorted(points))
            self.assertIsNone(split_points((form * line_of(points[0])).entries))
            for part in (QUAD, Form((1, 0, 1)), Form((3, 1, 1)), Form((1, 0, 0, 2))):
                self.assertIsNone(split_points((form * part).entries))

    def test_greatest(self):
        pick = picker(858)
        form = some_form(pick, 40, LET)
        for many, word in ((20, "rank"), (21, "open"), (40, "open"), (41, "powers"), (50, "powers")):
            paper = self.soon(8, powers_paper, form, many)
            self.assertEqual(paper[0], word)
            self.assertIs(self.soon(8, is_powers_paper, form, many, paper), True)
        form = some_form(pick, 39, LET)
        paper = self.soon(8, powers_paper, form, 20)
        self.assertEqual(paper[0], "killer")
        self.assertIs(self.soon(8, is_powers_paper, form, 20, paper), True)
        small = some_form(pick, 8)
        self.soon(6, lambda: [is_powers_paper(small, many, powers_paper(small, many)) for many in range(10) for _ in range(10)])

    def test_refuses(self):
        for value in NO_FORMS:
            self.refuses(InvalidForm, {}, powers_paper, value, 0)
            self.refuses(InvalidForm, {}, is_powers_paper, value, None, None)
        for value in NO_INTEGERS + (-1, 51):
            self.refuses_number(value, powers_paper, CUBIC, value)
            self.refuses_number(value, is_powers_paper, CUBIC, value, ("open",))
        for form in (CUBIC, Form((0, 0)), Form((5,)), BENT):
            for many in (0, 2, 50):
                for value in NO_PAPERS + (("powers", (None,)), ("powers", ((),)), ("rank", -1), ("rank", 41), ("rank", "0")):
                    if value not in (("open",),):
                        self.assertIs(is_powers_paper(form, many, value), False)
        self.assertIs(is_powers_paper(CUBIC, 0, ("rank", False)), False)
        self.assertIs(is_powers_paper(CUBIC, 0, ("rank", 0)), True)
        self.assertIs(is_powers_paper(Form((0,)), 0, ("powers", ())), True)
        self.assertIs(is_powers_paper(Form((0,)), 0, ("powers", [])), False)


class Monomials(Case, unittest.TestCase):
    def test_all(self):
        for a in range(21):
            for b in range(21):
                closed, ours = monomial_powers(a, b)
                self.assertEqual((closed, ours), (1, 1) if 0 in (a, b) else (max(a, b) + 1, a + b))
                if a + b <= 9:
                    form = Form(tuple(int(k == b) for k in range(a + b + 1)))
                    self.assertEqual(least_powers(form), closed)

    def test_over_the_fractions(self):
        for a, b in ((1, 1), (2, 1), (1, 3), (2, 2), (4, 1)):
            form = Form(tuple(int(k == b) for k in range(a + b + 1)))
            some = [(p, q) for p in range(5) for q in range(-4, 5) if (p, q) > (0, 0) and gcd(p, q) == 1]
            _, ours = monomial_powers(a, b)
            self.assertTrue(any(numbers_at(form, points) for points in combinations(some, ours)))
            if ours < 4:
                self.assertFalse(any(numbers_at(form, points) for points in combinations(some, ours - 1)))

    def test_refuses(self):
        for value in NO_INTEGERS + (-1, 21):
            self.refuses_number(value, monomial_powers, value, None)
            self.refuses_number(value, monomial_powers, 3, value)


class Statements(Case, unittest.TestCase):
    def test_what_is_not_true(self):
        self.assertEqual((len(killers(BENT, 2)), least_powers(BENT), powers_paper(BENT, 2)[0]), (1, 3, "killer"))
        self.assertEqual([numbers_at(QUAD, points) is None for points in (((1, 0), (0, 1)), ((1, 1), (1, 2)))], [False, False])
        lines = product_of([line_of(point) for point in ((1, 0), (0, 1), (1, 1))])
        self.assertEqual(powers_paper(lines, 2)[0], "killer")


class Examples(Case, unittest.TestCase):
    def test_document(self):
        self.run_examples("""
>>> [least_powers(form) for form in (QUAD, CUBIC, FOUR, SIX, BENT, Form((0, 0, 0)), Form((5,)), Form((0, 7)))]
[2, 2, 3, 4, 3, 0, 1, 1]
>>> [powers_paper(CUBIC, 2)[0], is_powers_paper(CUBIC, 2, ("killer", Form((-2, -2, -2)))), is_powers_paper(CUBIC, 3, ("open",)), is_powers_paper(CUBIC, 1, ("rank", 1)), is_powers_paper(CUBIC, 1, ("rank", 0))]
['killer', True, True, True, False]
>>> TERMS = (((2, 1), (1, 0)), ((1, 1), (0, 1)), ((-1, 2), (1, 1)), ((-1, 2), (1, -1)))
>>> [powers_sum(3, TERMS) == CUBIC, is_powers_paper(CUBIC, 4, ("powers", TERMS)), numbers_at(CUBIC, ((1, 0), (0, 1), (1, 1), (1, -1)))]
[True, True, ((2, 1), (1, 1), (-1, 2), (-1, 2))]
>>> [numbers_at(CUBIC, ((1, 0), (0, 1))), numbers_at(QUAD, ((1, 0), (0, 1))), numbers_at(Form((0,)), ())]
[None, ((1, 1), (-2, 1)), ()]
>>> [powers_paper(BENT, 2)[0], is_powers_paper(QUAD, 2, ("open",)), monomial_powers(3, 1), monomial_powers(0, 4)]
['killer', True, (4, 4), (1, 1)]
>>> powers_sum(2, (((1, 3), (1, 1)),))
raises Refused(('bottom', 3))
""", NAMES)

    def test_places(self):
        self.assertEqual(module.MOST_POWERS, 50)
        for call in (least_powers, powers_paper, is_powers_paper, numbers_at, powers_sum, monomial_powers):
            self.assertEqual(call.__module__, "sourceforms.power.powers")


if __name__ == "__main__":
    unittest.main()
