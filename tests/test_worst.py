import unittest
from fractions import Fraction
from itertools import product
from math import gcd

from sourceforms import errors
from sourceforms.errors import InvalidForm, InvalidOperation, InvalidTable, Refused
from sourceforms.fall import worst as module
from sourceforms.fall.worst import fall_kind, fall_paper, greatest_times, is_fall_paper, pushed, told_invariants
from sourceforms.form.forms import Form
from sourceforms.form.layings import laid
from tests.support import BENT, CUBIC, FOUR, LET, LONG, NO_INTEGERS, NO_TUPLES, QUAD, SIX, Case, picker, some_form, some_table
from tests.test_forms import changed_by_powers
from tests.test_layings import reckoned_laying
from tests.test_sources import NO_FORMS

NAMES = {**vars(errors), **vars(module), "Form": Form, "QUAD": QUAD, "CUBIC": CUBIC, "FOUR": FOUR, "SIX": SIX, "BENT": BENT}
# Forms without a common root, by pairs, and without repeated ones; some have roots over greater fields only.
PRIMES = tuple(Form(row) for row in (
    (1, 0), (0, 1), (1, 1), (3, -7), (5, 2), (1, 0, -2), (1, 0, 1), (1, 1, 1), (2, 0, -6), (1, 0, 0, -2), (1, 0, 0, 0, 1)))
WEIGHTS = {2: (2,), 3: (6,), 4: (4, 6), 5: (10, 20, 30), 6: (6, 12, 18, 30)}
NO_TABLES = NO_TUPLES + (
    (), ((1, 0),), ((1, 0), (0, 1), (0, 0)), ((1, 0, 0), (0, 1)), ((1, 0), (0,)), ((1, 0), [0, 1]), (1, 0, 0, 1),
    ((True, 0), (0, 1)), ((1, 0), (0, True)), ((1, None), (0, 1)), ((1, "0"), (0, 1)), ((1, (0,)), (0, 1)))


def powers(parts):
    """The product of some forms, each so often."""
    found = Form((1,))
    for part, often in parts:
        for _ in range(often):
            found = found * part
    return found


def some_products(seed, many, most=12):
    """Pairs of a product of powers of unlike forms and of how often its most frequent root comes."""
    pick = picker(seed)
    found = []
    while len(found) < many:
        parts = [(part, pick.randint(1, 5)) for part in pick.sample(PRIMES, pick.randint(1, 3))]
        degree = sum(part.degree * often for part, often in parts)
        if degree <= most:
            form = powers(parts) * pick.choice((1, -1, 6, 35))
            found.append((form, max(often for _, often in parts)))
    return found


def greatest_by_fractions(form):
    """How often the most frequent root comes, by derivatives and common divisors over the fractions."""
    entries = list(form.entries)
    lead = next(k for k, entry in enumerate(entries) if entry)
    found, left = lead, [Fraction(entry) for entry in entries[lead:]]
    often = 0
    while len(left) > 1:
        often += 1
        one, other = left, [entry * (len(left) - 1 - k) for k, entry in enumerate(left[:-1])]
        while other:
            rest = list(one)
            while len(rest) >= len(other):
                factor = rest[0] / other[0]
                rest = [a - factor * (other[k] if k < len(other) else 0) for k, a in enumerate(rest)][1:]
            while rest and rest[0] == 0:
                rest = rest[1:]
            one, other = other, rest
        left = one
    return max(found, often)


class Times(Case, unittest.TestCase):
    def test_constant(self):
        self.assertEqual(module.MAX_TOLD, 6)

    def test_products(self):
        for form, often in some_products(501, 150, 20):
            self.assertEqual(greatest_times(form), often)
            self.assertEqual(greatest_times(form.changed(((2, 1), (-3, 4)))), often)

    def test_small_forms(self):
        for degree in range(1, 5):
            for entries in product((-2, -1, 0, 1), repeat=degree + 1):
                if any(entries):
                    self.assertEqual(greatest_times(Form(entries)), greatest_by_fractions(Form(entries)))

    def test_random_forms(self):
        pick = picker(502)
        for _ in range(40):
            form = some_form(pick, pick.randint(1, 12), pick.choice((1, 2, 9)))
            if not form.is_zero:
                self.assertEqual(greatest_times(form), greatest_by_fractions(form))

    def test_edges(self):
        for entry in (7, -1, LET):
            self.assertEqual(greatest_times(Form((entry,))), 0)
        for degree in range(1, 41):
            for entries in ((LET,) + (0,) * degree, (0,) * degree + (-3,)):
                self.assertEqual(greatest_times(Form(entries)), degree)
        self.assertEqual(greatest_times(Form.power((3, -7), 40)), 40)
        self.assertEqual(greatest_times(Form((0,) * 20 + (1,) + (0,) * 20)), 20)
        self.assertEqual(greatest_times(Form((1,) + (0,) * 39 + (1,))), 1)

    def test_greatest(self):
        pick = picker(503)
        self.assertEqual(greatest_times(Form(tuple(pick.randint(-LET, LET) for _ in range(41)))), 1)
        half = Form(tuple(pick.randint(-10 ** 29, 10 ** 29) for _ in range(21)))
        self.assertEqual(greatest_times(half * half), 2)
        part = Form(tuple(pick.randint(-10 ** 12, 10 ** 12) for _ in range(9)))
        self.assertEqual(greatest_times(part * part * part * part * part), 5)
        self.assertEqual(greatest_times(powers(((Form((1, 0, -2)), 13), (Form((1, 1, 1)), 7)))), 13)

    def test_refuses(self):
        for value in NO_FORMS:
            self.refuses(InvalidForm, {}, greatest_times, value)
            self.refuses(InvalidForm, {}, fall_kind, value)
        for degree in (0, 1, 5, 40):
            self.refuses(Refused, {"reason": ("zero",)}, greatest_times, Form((0,) * (degree + 1)))
        for entry in (0, 1, -5):
            self.refuses(InvalidOperation, {}, fall_kind, Form((entry,)))


class Kinds(Case, unittest.TestCase):
    def test_products(self):
        pick = picker(504)
        seen = {"falls": 0, "edge": 0, "stands": 0}
        for form, often in some_products(505, 200, 20):
            kind = "falls" if 2 * often > form.degree else "edge" if 2 * often == form.degree else "stands"
            self.assertEqual(fall_kind(form), kind)
            seen[kind] += 1
            table = some_table(pick, 4)
            if table[0][0] * table[1][1] != table[0][1] * table[1][0]:
                self.assertEqual(fall_kind(form.changed(table)), kind)
        self.assertGreater(min(seen.values()), 20)

    def test_zero_forms(self):
        for degree in range(1, 41):
            self.assertEqual(fall_kind(Form((0,) * (degree + 1))), "falls")

    def test_two_roots_at_the_edge(self):
        self.assertEqual(fall_kind(Form((1, 0, -2))), "edge")
        self.assertEqual(fall_kind(Form((1, 0, 1)) * Form((1, 0, 1))), "edge")
        self.assertEqual(fall_kind(Form((1, 0, -2)) * Form((1, 0, -3))), "stands")


class Told(Case, unittest.TestCase):
    def told(self, f):
        n = f.degree
        if n == 1:
            return ()
        if n == 2:
            return (laid(f, f, 2),)
        h = laid(f, f, 2)
        if n == 3:
            return (laid(h, h, 2),)
        if n == 4:
            return (laid(f, f, 4), laid(f, h, 4))
        i = laid(f, f, 4)
        if n == 5:
            t = laid(laid(f, i, 2), laid(f, i, 2), 2)
            return (laid(i, i, 2), laid(i, t, 2), laid(t, t, 2))
        one = laid(f, i, 4)
        v = laid(i, laid(i, one, 2), 2)
        return (laid(f, f, 6), laid(i, i, 4), laid(i, laid(i, i, 2), 4), laid(v, one, 2))

    def test_layings(self):
        pick = picker(506)
        for degree in range(1, 7):
            for most in (0, 1, 4, LET):
                for _ in range(4):
                    form = some_form(pick, degree, most)
                    found = told_invariants(form)
                    self.assertEqual(found, tuple(part.entries[0] for part in self.told(form)))

    def test_changed_forms(self):
        pick = picker(507)
        for degree, weights in WEIGHTS.items():
            for _ in range(8):
                form, table = some_form(pick, degree, 3), some_table(pick, 3)
                t = table[0][0] * table[1][1] - table[0][1] * table[1][0]
                wanted = tuple(part * t ** weight for part, weight in zip(told_invariants(form), weights))
                self.assertEqual(told_invariants(form.changed(table)), wanted)

    def test_zero_exactly_if_it_falls(self):
        for degree in range(1, 5):
            for entries in product((-1, 0, 1, 2), repeat=degree + 1):
                form = Form(entries)
                self.assertEqual(not any(told_invariants(form)), fall_kind(form) == "falls")
        for form, _ in some_products(508, 150, 6):
            self.assertEqual(not any(told_invariants(form)), fall_kind(form) == "falls")

    def test_refuses(self):
        for call in (told_invariants, fall_paper, lambda form: is_fall_paper(form, ("invariant", 0))):
            for value in NO_FORMS:
                self.refuses(InvalidForm, {}, call, value)
            for form in (Form((1,)), Form((0,)), Form((1,) * 8), Form((0,) * 8), Form((0,) * 41)):
                self.refuses(InvalidOperation, {}, call, form)


class Papers(Case, unittest.TestCase):
    def check_push(self, form, table):
        (p, q), (r, s) = table
        self.assertNotEqual(p * s, q * r)
        self.assertFalse(any(form.changed(table).entries[:form.degree // 2 + 1]))

    def forms(self):
        pick = picker(509)
        found = [form for form, _ in some_products(510, 150, 6)]
        found += [Form((0,) * (degree + 1)) for degree in range(1, 7)]
        for _ in range(60):
            # A root more often than half of the degree, at a point of any size.
            a, b = pick.choice(((1, 0), (0, 1), (2, -3), (LET, 10), (10 ** 30, 10 ** 30 + 1), (-7, 4), (5, 7)))
            degree = pick.randint(1, 6)
            often = degree // 2 + 1
            rest = some_form(pick, degree - often, 5)
            if gcd(a, b) == 1:
                found.append(powers([(Form((b, -a)), often)]) * rest)
        found += [some_form(pick, pick.randint(1, 6)) for _ in range(60)]
        return found

    def test_papers(self):
        words = {"push": 0, "invariant": 0}
        for form in self.forms():
            word, shown = fall_paper(form)
            words[word] += 1
            self.assertEqual(word, "push" if fall_kind(form) == "falls" else "invariant")
            self.assertIs(is_fall_paper(form, (word, shown)), True)
            told = told_invariants(form)
            if word == "push":
                self.check_push(form, shown)
                if all(abs(entry) < LONG for entry in form.entries):
                    self.assertTrue(all(abs(part) < LONG for row in shown for part in row))
            for index in range(-2, 6):
                right = 0 <= index < len(told) and told[index] != 0
                self.assertIs(is_fall_paper(form, ("invariant", index)), right)
        self.assertGreater(min(words.values()), 50)

    def test_pushes_are_judged(self):
        pick = picker(511)
        right = 0
        for form in self.forms():
            for _ in range(12):
                table = some_table(pick, 2)
                det = table[0][0] * table[1][1] - table[0][1] * table[1][0]
                zeros = not any(form.changed(table).entries[:form.degree // 2 + 1])
                self.assertIs(is_fall_paper(form, ("push", table)), det != 0 and zeros)
                right += det != 0 and zeros
        self.assertGreater(right, 50)

    def test_longer_integers(self):
        k = 10 ** 90
        self.assertIs(is_fall_paper(BENT, ("push", ((k, 1), (-k, 1)))), True)
        self.assertIs(is_fall_paper(BENT, ("push", ((k, k), (-k, -k)))), False)
        self.assertIs(is_fall_paper(BENT, ("push", ((k, 1), (-k - 1, 1)))), False)
        self.assertIs(is_fall_paper(CUBIC, ("invariant", k)), False)
        long = BENT * LET * LET
        self.assertIs(is_fall_paper(long, fall_paper(long)), True)

    def test_any_value_is_judged(self):
        bent = Form((1, 0, 0, 0))
        good = ((0, 1), (1, 0))
        self.assertIs(is_fall_paper(bent, ("push", good)), True)
        for form in (bent, CUBIC, FOUR):
            for value in NO_TUPLES + ((), ("push",), ("invariant",), ("push", good, 1), ("Push", good), [("push", good)],
                                      ["push", good], (("push", good),), ("invariant", True), ("invariant", False),
                                      ("invariant", None), ("invariant", "0"), ("invariant", (0,)), (True, 0), (0, 0),
                                      ("other", 0), ("invariant", good), ("push", 0), ("push", form), (form, good), "push"):
                self.assertIs(is_fall_paper(form, value), False)
        for value in NO_TABLES:
            self.assertIs(is_fall_paper(bent, ("push", value)), False)
        self.assertIs(is_fall_paper(bent, ("push", ((False, True), (True, False)))), False)
        self.assertIs(is_fall_paper(CUBIC, ("invariant", 0)), True)


class Judging(Case, unittest.TestCase):
    """Some thousand values, each judged by the changed form and by layings that the test works out."""

    def reckoned(self, form, value):
        if value.__class__ is not tuple or len(value) != 2:
            return False
        word, shown = value
        if word == "invariant":
            told = [part[0] for part in self.told(form.entries)]
            return shown.__class__ is int and 0 <= shown < len(told) and told[shown] != 0
        if word != "push" or shown.__class__ is not tuple or len(shown) != 2:
            return False
        if any(row.__class__ is not tuple or len(row) != 2 or any(part.__class__ is not int for part in row) for row in shown):
            return False
        (p, q), (r, s) = shown
        if p * s == q * r:
            return False
        return not any(changed_by_powers(form.entries, (p, q), (r, s))[:form.degree // 2 + 1])

    def told(self, f):
        n = len(f) - 1
        if n < 3:
            return [reckoned_laying(f, f, 2)][:n - 1]
        h = reckoned_laying(f, f, 2)
        if n == 3:
            return [reckoned_laying(h, h, 2)]
        i = reckoned_laying(f, f, 4)
        if n == 4:
            return [i, reckoned_laying(f, h, 4)]
        if n == 5:
            j = reckoned_laying(f, i, 2)
            t = reckoned_laying(j, j, 2)
            return [reckoned_laying(one, other, 2) for one, other in ((i, i), (i, t), (t, t))]
        one = reckoned_laying(f, i, 4)
        v = reckoned_laying(i, reckoned_laying(i, one, 2), 2)
        return [reckoned_laying(f, f, 6), reckoned_laying(i, i, 4), reckoned_laying(i, reckoned_laying(i, i, 2), 4), reckoned_laying(v, one, 2)]

    def forms(self):
        pick = picker(513)
        found = []
        for degree in range(1, 7):
            found += [Form((0,) * (degree + 1)), Form((1,) + (0,) * degree), Form((0,) * degree + (-2,)), some_form(pick, degree, LET)]
            for often in range(degree + 1):
                a, b = pick.choice(((1, 0), (0, 1), (2, -3), (5, 7), (1, 10 ** 9)))
                found.append(powers([(Form((b, -a)), often)]) * some_form(pick, degree - often, 3))
        return found

    def values(self, pick, form):
        """Right papers, papers near them, and values of other kinds."""
        found = [("invariant", index) for index in range(-2, 6)] + [fall_paper(form)]
        tables = [some_table(pick, 2) for _ in range(4)] + [((1, 0), (0, 1)), ((0, 1), (1, 0))]
        word, shown = fall_paper(form)
        if word == "push":
            (p, q), (r, s) = shown
            k = pick.choice((-1, 3, 10 ** 70))
            tables += [((k * p, q + p), (k * r, s + r)), ((q, p), (s, r)), ((p, p), (r, r)), ((p + 1, q), (r, s)), ((p, q), (r + 1, s)),
                       ((0, q), (0, s)), ((p, 0), (r, 0)), ((-p, q), (-r, s))]
        found += [("push", table) for table in tables]
        found += [("push", table + ((0, 0),)) for table in tables[:1]] + [("push", list(tables[0])), ("push", tables[0], 1), ["push", tables[0]]]
        return found + list(pick.sample(NO_TUPLES + NO_TABLES, 6)) + [("push", value) for value in pick.sample(NO_TABLES, 4)]

    def test_answers(self):
        pick = picker(514)
        many, right = 0, 0
        for _ in range(2):
            for form in self.forms():
                for value in self.values(pick, form):
                    wanted = self.reckoned(form, value)
                    self.assertIs(is_fall_paper(form, value), wanted)
                    many, right = many + 1, right + wanted
        self.assertGreater(many, 2000)
        self.assertGreater(right, 200)

    def test_time(self):
        """Ten rounds of some four hundred calls, most of which need no invariant; there were times of 14 ms for one round."""
        pick = picker(515)
        lots = [(form, value) for form in self.forms()[::3][:12] for value in self.values(pick, form)]
        self.soon(0.4, lambda: [is_fall_paper(form, value) for _ in range(10) for form, value in lots])


class Pushed(Case, unittest.TestCase):
    def test_ratios(self):
        pick = picker(512)
        for _ in range(80):
            form = some_form(pick, pick.randint(0, 9), pick.choice((0, 3, LET)))
            table, weight = some_table(pick, 3), pick.choice((1, 2, 10, 12, 999999, 1000000))
            n = form.degree
            wanted = [Fraction(entry) * Fraction(weight) ** (n - 2 * i) for i, entry in enumerate(form.changed(table).entries)]
            self.assertEqual(pushed(form, table, weight), tuple((part.numerator, part.denominator) for part in wanted))

    def test_edges(self):
        self.assertEqual(pushed(Form((0,)), ((0, 0), (0, 0)), 1), ((0, 1),))
        self.assertEqual(pushed(Form((0, 5)), ((1, 0), (0, 1)), 10), ((0, 1), (1, 2)))
        row = pushed(Form((1,) * 41), ((1, 0), (0, 1)), 1000000)
        self.assertEqual((row[0], row[20], row[40]), ((10 ** 240, 1), (1, 1), (1, 10 ** 240)))

    def test_invariants_are_kept(self):
        """Behind a weight the told invariants of the form, made whole again, are the old ones."""
        for form in (QUAD, CUBIC, FOUR, SIX):
            row = pushed(form, ((1, 0), (0, 1)), 6)
            whole = 6 ** form.degree
            made = Form(tuple(top * whole // bottom for top, bottom in row))
            sizes = {2: (2,), 3: (4,), 4: (2, 3), 6: (2, 4, 6, 10)}[form.degree]
            self.assertEqual(told_invariants(made), tuple(t * whole ** d for t, d in zip(told_invariants(form), sizes)))

    def test_refuses(self):
        unit = ((1, 0), (0, 1))
        for value in NO_FORMS:
            self.refuses(InvalidForm, {}, pushed, value, None, None)
        for value in NO_TABLES + (((LONG, 0), (0, 1)), ((1, 0), (0, -LONG))):
            self.refuses(InvalidTable, {}, pushed, QUAD, value, 2)
            self.refuses(InvalidTable, {}, pushed, QUAD, value, 0)
        for value in NO_INTEGERS + (0, -1, 1000001):
            self.refuses_number(value, pushed, QUAD, unit, value)


class Statements(Case, unittest.TestCase):
    def test_what_is_not_true(self):
        double = Form((0, 0, 1, 1, 1))
        self.assertEqual((greatest_times(double), fall_kind(double)), (2, "edge"))
        self.assertEqual(fall_kind(Form((0, 0, 1, 1, 0, 0))), "stands")
        self.assertEqual((told_invariants(FOUR)[0], fall_kind(FOUR)), (0, "stands"))
        self.assertEqual(told_invariants(QUAD), told_invariants(Form((2, 0, -1))))


class Examples(Case, unittest.TestCase):
    def test_document(self):
        self.run_examples("""
>>> [greatest_times(BENT), greatest_times(QUAD), greatest_times(Form((1, 0, -4, 0, 4))), greatest_times(Form((7,)))]
[2, 1, 2, 0]
>>> [fall_kind(form) for form in (BENT, QUAD, Form((1, 0, -4, 0, 4)), Form((1, 5)), Form((0, 0, 0)), Form((0, 0, 1, 1, 0, 0)))]
['falls', 'edge', 'edge', 'falls', 'falls', 'stands']
>>> [told_invariants(form) for form in (QUAD, CUBIC, BENT, FOUR, SIX)]
[(-16,), (31104,), (0,), (0, -31104), (172800, 0, 0, 0)]
>>> [told_invariants(Form((1, 0, 0, 0, 0, 1))), told_invariants(Form((3, 1)))]
[(-1658880000, 0, 0), ()]
>>> [fall_paper(CUBIC), fall_paper(FOUR), fall_paper(BENT)[0], is_fall_paper(BENT, ("push", ((1, 0), (-1, 1)))), is_fall_paper(BENT, ("push", ((-3, 5), (3, 1))))]
[('invariant', 0), ('invariant', 1), 'push', True, True]
>>> [is_fall_paper(BENT, ("push", ((1, 0), (0, 1)))), is_fall_paper(BENT, ("push", ((1, 1), (-1, -1)))), is_fall_paper(FOUR, ("invariant", 0))]
[False, False, False]
>>> [pushed(BENT, ((1, 0), (-1, 1)), 10), pushed(Form((0, 0, 1, 3, 0)), ((1, 0), (0, 1)), 10)]
[((0, 1), (0, 1), (1, 10), (0, 1)), ((0, 1), (0, 1), (1, 1), (3, 100), (0, 1))]
>>> told_invariants(Form((1, 0, 0, 0, 0, 0, 0, 1)))
raises InvalidOperation
""", NAMES)

    def test_places(self):
        for call in (greatest_times, fall_kind, told_invariants, fall_paper, is_fall_paper, pushed):
            self.assertEqual(call.__module__, "sourceforms.fall.worst")


if __name__ == "__main__":
    unittest.main()
