import unittest
from itertools import permutations, product

from sourceforms import errors
from sourceforms.errors import InvalidForm, InvalidOperation, InvalidPoint, InvalidTable, TooMany
from sourceforms.form.forms import Form
from sourceforms.form.layings import laid
from sourceforms.prime import fields as module
from sourceforms.prime.fields import PrimeForm, all_points, led_point, plain_table, table_by_three
from sourceforms.sums.sums import Sum
from tests.support import BENT, CUBIC, FOUR, LET, LONG, NO_INTEGERS, NO_TUPLES, QUAD, SIX, Case, matrix_product, picker, some_form
from tests.test_sources import NO_FORMS
from tests.test_worst import NO_TABLES

NAMES = {**vars(errors), **vars(module), "Form": Form, "CUBIC": CUBIC, "FOUR": FOUR, "SIX": SIX, "BENT": BENT}
PRIMES = (13, 17, 19, 23, 29, 31, 37, 41, 43, 47, 53, 59, 61, 67, 71, 73, 79, 83, 89, 97, 101)
NO_PRIMES = NO_INTEGERS + tuple(number for number in range(-3, 110) if number not in PRIMES) + (103, 10 ** 59)
SMALL = PrimeForm.of_form(CUBIC, 13)
UNIT = ((1, 0), (0, 1))
NO_POINTS = NO_TUPLES + (
    (), (1,), (1, 0, 0), (0, 0), (0, 2), (2, 1), (1, 13), (1, -1), (-1, 0), (13, 1), (1, 14), (True, 0), (1, False),
    (0, True), (1, None), (1, "2"), (1, (2,)), (1, LONG), [1, 2])


def some_prime_form(pick, p, degree):
    return PrimeForm(p, tuple(pick.randrange(p) for _ in range(degree + 1)))


def some_prime_table(pick, p, most=None):
    while True:
        table = tuple(tuple(pick.randint(-most, most) if most else pick.randrange(p) for _ in range(2)) for _ in range(2))
        if (table[0][0] * table[1][1] - table[0][1] * table[1][0]) % p:
            return table


def value_by_terms(entries, x, y, p):
    n = len(entries) - 1
    return sum(entry * x ** (n - i) * y ** i for i, entry in enumerate(entries)) % p


def points_of(p):
    return [(0, 1)] + [(1, b) for b in range(p)]


def moved(table, point, p):
    """Where a table leads a point: the multiple whose first integer other than 0 is 1."""
    a, b = ((row[0] * point[0] + row[1] * point[1]) % p for row in table)
    return next((k * a % p, k * b % p) for k in range(1, p) if (k * a % p, k * b % p) in ((0, 1), (1, k * b % p)))


def monic_rows(p, degree):
    """The forms of a degree whose first entry other than 0 is 1."""
    for lead in range(degree + 1):
        for tail in product(range(p), repeat=degree - lead):
            yield (0,) * lead + (1,) + tail


def quotient_by_trial(entries, divisor, p):
    """The entries of the quotient modulo p, or None."""
    many = len(entries) - len(divisor) + 1
    if many < 1:
        return None
    lead = next(k for k, entry in enumerate(divisor) if entry)
    left, found = list(entries), []
    for k in range(many):
        # The divisors here have 1 as their first entry other than 0.
        number = left[k + lead] % p
        found.append(number)
        for j, entry in enumerate(divisor):
            left[k + j] = (left[k + j] - number * entry) % p
    return None if any(left) else tuple(found)


def pattern_by_trial(form):
    """Divide by all forms, from the least degree on; the last factor has no divisor of half of its degree."""
    p, left, found, degree = form.prime, form.entries, [], 1
    while len(left) - 1 >= 2 * degree:
        for divisor in monic_rows(p, degree):
            often, less = 0, quotient_by_trial(left, divisor, p)
            while less is not None:
                often, left, less = often + 1, less, quotient_by_trial(less, divisor, p)
            if often:
                found.append((degree, often))
        degree += 1
    if len(left) > 1:
        found.append((len(left) - 1, 1))
    return tuple(sorted(found))


class Making(Case, unittest.TestCase):
    def test_constants(self):
        self.assertEqual((module.LEAST_PRIME, module.MOST_PRIME, module.MOST_DEGREE), (13, 101, 12))

    def test_properties(self):
        pick = picker(601)
        for p in PRIMES:
            for degree in range(13):
                row = tuple(pick.choice((0, p, -p, pick.randint(-LET, LET))) for _ in range(degree + 1))
                form = PrimeForm(p, row)
                self.assertEqual((form.prime, form.entries, form.degree), (p, tuple(entry % p for entry in row), degree))
                self.assertIs(form.is_zero, not any(entry % p for entry in row))
                wanted = form.entries
                if any(wanted):
                    first = next(entry for entry in wanted if entry)
                    factor = next(k for k in range(p) if k * first % p == 1)
                    wanted = tuple(entry * factor % p for entry in wanted)
                self.assertEqual(form.plain, PrimeForm(p, wanted))
                self.assertEqual(PrimeForm.of_form(Form(row), p), form)
                self.assertEqual(str(form), "form " + " ".join(str(entry) for entry in form.entries) + f" over {p}")
        for name in ("prime", "entries", "degree", "is_zero", "plain"):
            with self.assertRaises(AttributeError):
                setattr(SMALL, name, 3)

    def test_long_entries_of_forms(self):
        long = (CUBIC * LET) * LET
        self.assertEqual(PrimeForm.of_form(long, 17), PrimeForm.of_form(CUBIC * (LET % 17) * (LET % 17), 17))

    def test_methods_stand_in_the_class(self):
        names = "of_form prime entries degree is_zero plain value changed laid times_at roots pattern __mul__ __eq__ __str__"
        for name in names.split():
            self.assertIn(name, vars(PrimeForm))

    def test_refuses(self):
        for value in NO_PRIMES:
            self.refuses_number(value, PrimeForm, value, (1, 2))
            self.refuses_number(value, PrimeForm, value, None)
            self.refuses_number(value, PrimeForm.of_form, CUBIC, value)
            self.refuses_number(value, PrimeForm.of_form, Form((1,) * 14), value)
            self.refuses_number(value, all_points, value)
        for value in NO_TUPLES + ((), (1,) * 14, (1, True), (1, None), (1, "2"), (1, (2,)), (LONG,), (1, -LONG), [1], (SMALL,)):
            self.refuses(InvalidForm, {}, PrimeForm, 13, value)
        for value in NO_FORMS + (SMALL,):
            self.refuses(InvalidForm, {}, PrimeForm.of_form, value, 12)
        self.refuses(TooMany, {"limit": 12}, PrimeForm.of_form, Form((1,) * 14), 13)
        self.refuses(TooMany, {"limit": 12}, PrimeForm.of_form, Form((0,) * 41), 101)
        self.assertEqual(PrimeForm.of_form(Form((14,) * 13), 13).entries, (1,) * 13)

    def test_equality(self):
        self.assertTrue(SMALL == PrimeForm(13, (14, -13, -3, 1)))
        self.assertFalse(SMALL != PrimeForm(13, (1, 0, 10, 1)))
        for value in (None, True, 0, "a", (), (1, 0, 10, 1), CUBIC, PrimeForm(17, (1, 0, 10, 1)), PrimeForm(13, (1, 0, 10)),
                      PrimeForm(13, (1, 0, 10, 2)), Sum.entry(3, 0)):
            self.assertIs(SMALL == value, False)
            self.assertIs(SMALL != value, True)
            self.assertIs(value == SMALL, False)

    def test_other_kinds(self):
        for value in (True, None, 3, "a", (1, 0), [1], {}, CUBIC, Sum.entry(3, 0)):
            for call in (lambda: SMALL * value, lambda: value * SMALL, lambda: SMALL + value, lambda: SMALL - value):
                with self.assertRaises(TypeError):
                    call()
        for call in (lambda: list(SMALL), lambda: -SMALL, lambda: SMALL + SMALL, lambda: SMALL - SMALL, lambda: SMALL < SMALL):
            with self.assertRaises(TypeError):
                call()


class Working(Case, unittest.TestCase):
    def test_values_and_roots(self):
        pick = picker(602)
        for p in (13, 17, 53, 101):
            for degree in (0, 1, 2, 5, 12):
                for _ in range(4):
                    form = some_prime_form(pick, p, degree)
                    for x, y in ((0, 0), (1, 0), (0, 1), (-1, p), (LET, -LET), (pick.randrange(p), pick.randrange(p))):
                        self.assertEqual(form.value(x, y), value_by_terms(form.entries, x, y, p))
                    wanted = tuple(point for point in points_of(p) if value_by_terms(form.entries, *point, p) == 0)
                    self.assertEqual(form.roots(), wanted)
            self.assertEqual(PrimeForm(p, (0, 0)).roots(), tuple(points_of(p)))
            self.assertEqual(all_points(p), tuple(points_of(p)))
            self.assertEqual((PrimeForm(p, (5,)).roots(), PrimeForm(p, (p,)).roots()), ((), tuple(points_of(p))))

    def test_times(self):
        """A point is a root as often as zeros stand ahead when a table leads (1, 0) to it."""
        pick = picker(603)
        for p in (13, 19, 101):
            for _ in range(20):
                points = [pick.choice(points_of(p)) for _ in range(pick.randint(1, 3))]
                form = PrimeForm(p, (pick.randrange(1, p),))
                for point in points:
                    for _ in range(pick.randint(0, 4)):
                        form = form * PrimeForm(p, (point[1], -point[0]))
                if form.degree < 11:
                    form = form * PrimeForm(p, (1, 0, -next(k for k in range(2, p) if pow(k, (p - 1) // 2, p) != 1)))
                for point in points_of(p):
                    table = ((point[0], 0), (point[1], 1)) if point[0] else ((0, 1), (1, 0))
                    row = form.changed(table).entries
                    wanted = next(k for k, entry in enumerate(row) if entry)
                    self.assertEqual(form.times_at(point), wanted)
                self.assertEqual(sum(form.times_at(point) for point in points_of(p)) <= form.degree, True)
        self.assertEqual(PrimeForm(13, (5,)).times_at((1, 3)), 0)
        self.assertEqual(PrimeForm(13, (0,) * 12 + (1,)).times_at((1, 0)), 12)
        self.assertEqual(PrimeForm(13, (1,) + (0,) * 12).times_at((0, 1)), 12)

    def test_changed(self):
        pick = picker(604)
        for p in (13, 23, 101):
            for degree in (0, 1, 3, 12):
                form = some_prime_form(pick, p, degree)
                for most in (None, 3, LET):
                    table, other = some_prime_table(pick, p, most), some_prime_table(pick, p)
                    made = form.changed(table)
                    self.assertEqual(made, PrimeForm.of_form(Form(form.entries).changed(table), p))
                    for point in points_of(p)[:20]:
                        self.assertEqual(point in made.roots(), moved(table, point, p) in form.roots())
                    self.assertEqual(made.changed(other), form.changed(matrix_product(tuple(
                        tuple(part % p for part in row) for row in table), other)))

    def test_laid(self):
        pick = picker(605)
        for p in (13, 17, 101):
            for _ in range(30):
                one, other = some_form(pick, pick.randint(0, 12), LET), some_form(pick, pick.randint(0, 12), 9)
                first, second = PrimeForm.of_form(one, p), PrimeForm.of_form(other, p)
                for times in range(min(one.degree, other.degree) + 1):
                    if one.degree + other.degree - 2 * times <= 12:
                        self.assertEqual(first.laid(second, times), PrimeForm.of_form(laid(one, other, times), p))
                    else:
                        self.refuses(TooMany, {"limit": 12}, first.laid, second, times)

    def test_products(self):
        pick = picker(606)
        for p in (13, 101):
            for _ in range(30):
                one, other = some_form(pick, pick.randint(0, 6)), some_form(pick, pick.randint(0, 6))
                self.assertEqual(PrimeForm.of_form(one, p) * PrimeForm.of_form(other, p), PrimeForm.of_form(one * other, p))
        seven, six = PrimeForm(13, (1,) * 8), PrimeForm(13, (0,) * 7)
        self.refuses(TooMany, {"limit": 12}, lambda: seven * six)
        self.refuses(TooMany, {"limit": 12}, lambda: six * seven)
        self.assertEqual((six * six).degree, 12)
        for other in (PrimeForm(17, (1,) * 8), PrimeForm(17, (1,)), PrimeForm(101, (0, 0))):
            self.refuses(InvalidForm, {}, lambda: seven * other)

    def test_refuses(self):
        for value in NO_INTEGERS:
            self.refuses_number(value, SMALL.value, value, None)
            self.refuses_number(value, SMALL.value, 2, value)
        for value in NO_TABLES + (((LONG, 0), (0, 1)), ((1, 2), (2, 4)), ((0, 0), (0, 0)), ((1, 0), (0, 13)), ((2, 3), (1, 8)),
                                  ((13, 0), (0, 1)), ((1, 2), (2, 17)), UNIT[0]):
            self.refuses(InvalidTable, {}, SMALL.changed, value)
            self.refuses(InvalidTable, {}, led_point, 13, value, None)
            self.refuses(InvalidTable, {}, plain_table, 13, value)
        for value in NO_FORMS + (CUBIC, PrimeForm(17, (1, 2)), PrimeForm(101, (1, 0, 10, 1))):
            self.refuses(InvalidForm, {}, SMALL.laid, value, None)
            self.refuses(InvalidForm, {}, SMALL.laid, value, 4)
        for value in NO_INTEGERS + (-1, 4):
            self.refuses_number(value, SMALL.laid, SMALL, value)
        for value in NO_INTEGERS + (-1, 3):
            self.refuses_number(value, PrimeForm(13, (1,) * 13).laid, PrimeForm(13, (1, 2, 3)), value)
        for value in NO_POINTS:
            self.refuses(InvalidPoint, {}, SMALL.times_at, value)
            self.refuses(InvalidPoint, {}, PrimeForm(13, (0, 0)).times_at, value)
            self.refuses(InvalidPoint, {}, led_point, 13, UNIT, value)
        for degree in (0, 1, 12):
            zero = PrimeForm(13, (13,) * (degree + 1))
            self.refuses(InvalidOperation, {}, zero.times_at, (1, 0))
            self.refuses(InvalidOperation, {}, zero.pattern)

    def test_nothing_changes(self):
        form = PrimeForm(13, SMALL.entries)
        for call in (form.roots, form.pattern, lambda: form * form, lambda: form.laid(form, 2), lambda: form.changed(((1, 2), (3, 4)))):
            self.assertEqual(call(), call())
            self.assertEqual(form, SMALL)


class Patterns(Case, unittest.TestCase):
    def test_by_trial(self):
        pick = picker(607)
        for p, most in ((13, 6), (17, 5), (101, 3)):
            for _ in range(25):
                form = some_prime_form(pick, p, pick.randint(0, most))
                if not form.is_zero:
                    self.assertEqual(form.pattern(), pattern_by_trial(form))

    def test_products(self):
        """Products of irreducible forms, each told by trial, have the pattern that their numbers tell."""
        pick = picker(608)
        for p in (13, 29, 101):
            found = {}
            for degree in (1, 2, 3, 4) if p < 20 else (1, 2, 3):
                while len(found.get(degree, [])) < 5:
                    form = some_prime_form(pick, p, degree)
                    if degree == 4:
                        good = not form.is_zero and pattern_by_trial(form) == ((4, 1),)
                    else:
                        good = not form.is_zero and (degree == 1 or form.roots() == ())
                    if good and form.plain not in found.get(degree, []):
                        found.setdefault(degree, []).append(form.plain)
            for _ in range(60):
                parts = pick.sample([form for rows in found.values() for form in rows], pick.randint(1, 5))
                wanted, total = [], PrimeForm(p, (pick.randrange(1, p),))
                for part in parts:
                    often = pick.randint(1, 4)
                    if total.degree + often * part.degree <= 12:
                        wanted.append((part.degree, often))
                        for _ in range(often):
                            total = total * part
                self.assertEqual(total.pattern(), tuple(sorted(wanted)))
                table = some_prime_table(pick, p)
                self.assertEqual(total.changed(table).pattern(), total.pattern())

    def test_edges(self):
        for p in PRIMES:
            self.assertEqual(PrimeForm(p, (3,)).pattern(), ())
            self.assertEqual(PrimeForm(p, (0,) * 12 + (1,)).pattern(), ((1, 12),))
            self.assertEqual(PrimeForm(p, (5,) + (0,) * 12).pattern(), ((1, 12),))
            # x ** 12 - y ** 12 has as many points as the common divisor of 12 and p - 1 tells.
            form = PrimeForm(p, (1,) + (0,) * 11 + (-1,))
            self.assertEqual(sum(1 for degree, _ in form.pattern() if degree == 1), len(form.roots()))
            self.assertEqual(sum(degree * often for degree, often in form.pattern()), 12)


class Tables(Case, unittest.TestCase):
    def test_led_points(self):
        pick = picker(609)
        for p in (13, 31, 101):
            for most in (None, 5, LET):
                table, other = some_prime_table(pick, p, most), some_prime_table(pick, p)
                for point in points_of(p):
                    there = led_point(p, table, point)
                    self.assertEqual(there, moved(table, point, p))
                    whole = tuple(tuple(part % p for part in row) for row in matrix_product(table, other))
                    self.assertEqual(led_point(p, whole, point), led_point(p, table, led_point(p, other, point)))

    def test_plain_tables(self):
        pick = picker(610)
        for p in (13, 43, 101):
            for _ in range(30):
                table = some_prime_table(pick, p, pick.choice((None, 9, LET)))
                made = plain_table(p, table)
                row = made[0] + made[1]
                self.assertTrue(all(0 <= part < p for part in row))
                self.assertEqual(next(part for part in row if part), 1)
                for k in (2, p - 1):
                    self.assertEqual(plain_table(p, tuple(tuple(part % p * k for part in line) for line in table)), made)
                self.assertEqual([led_point(p, made, point) for point in points_of(p)], [led_point(p, table, point) for point in points_of(p)])
        self.assertEqual(plain_table(13, ((0, 5), (2, 7))), ((0, 1), (3, 4)))

    def test_by_three(self):
        found = {}
        three = ((1, 5), (0, 1), (1, 12))
        for other in permutations(points_of(13), 3):
            table = table_by_three(13, three, other)
            self.assertEqual(tuple(led_point(13, table, point) for point in three), other)
            self.assertEqual(plain_table(13, table), table)
            found[table] = other
        self.assertEqual(len(found), 13 * (13 * 13 - 1))
        pick = picker(611)
        for p in PRIMES:
            first, second = (tuple(pick.sample(points_of(p), 3)) for _ in range(2))
            self.assertEqual(tuple(led_point(p, table_by_three(p, first, second), point) for point in first), second)
            self.assertEqual(table_by_three(p, first, first), UNIT)

    def test_refuses(self):
        good = ((1, 0), (0, 1), (1, 1))
        for value in NO_PRIMES:
            self.refuses_number(value, led_point, value, None, None)
            self.refuses_number(value, plain_table, value, None)
            self.refuses_number(value, table_by_three, value, None, None)
        bad = NO_TUPLES + ((), good[:2], good + ((1, 2),), list(good)) + tuple(good[:2] + (value,) for value in NO_POINTS)
        for value in bad + tuple(combo for combo in product(good, repeat=3) if len(set(combo)) < 3):
            self.refuses(InvalidPoint, {}, table_by_three, 13, value, good)
            self.refuses(InvalidPoint, {}, table_by_three, 13, value, None)
            self.refuses(InvalidPoint, {}, table_by_three, 13, good, value)
        for first in NO_POINTS:
            self.refuses(InvalidPoint, {}, table_by_three, 13, (first,) + good[1:], good)


class Statements(Case, unittest.TestCase):
    def test_reduced_layings(self):
        self.assertEqual(PrimeForm.of_form(QUAD, 13).laid(PrimeForm.of_form(QUAD, 13), 2), PrimeForm(13, (-16,)))


class Examples(Case, unittest.TestCase):
    def test_document(self):
        self.run_examples("""
>>> small, form = PrimeForm.of_form(CUBIC, 13), PrimeForm.of_form(CUBIC, 17)
>>> [small.entries, small.roots(), small.pattern(), form.roots(), form.pattern(), form.times_at((1, 4))]
[(1, 0, 10, 1), (), ((3, 1),), ((1, 4), (1, 5), (1, 11)), ((1, 1), (1, 1), (1, 1)), 1]
>>> [form.changed(((1, 2), (3, 5))).entries, form.laid(form, 2).entries, str(small)]
[(1, 14, 16, 0), (13, 4, 13), 'form 1 0 10 1 over 13']
>>> [PrimeForm.of_form(FOUR, 17).pattern(), PrimeForm.of_form(BENT, 17).pattern(), led_point(17, ((1, 2), (3, 5)), (1, 8)), plain_table(17, ((3, 6), (9, 15)))]
[((1, 1), (1, 1), (2, 1)), ((1, 1), (1, 2)), (0, 1), ((1, 2), (3, 5))]
>>> [len(all_points(13)), all_points(13)[:3], table_by_three(13, ((1, 0), (0, 1), (1, 1)), ((1, 2), (1, 5), (0, 1)))]
[14, ((0, 1), (1, 0), (1, 1)), ((1, 12), (2, 8))]
>>> form.changed(((1, 2), (2, 21)))
raises InvalidTable
""", NAMES)

    def test_places(self):
        for call in (PrimeForm, all_points, led_point, plain_table, table_by_three):
            self.assertEqual(call.__module__, "sourceforms.prime.fields")


if __name__ == "__main__":
    unittest.main()
