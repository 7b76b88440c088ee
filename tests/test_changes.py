import unittest
from itertools import product

from sourceforms import errors
from sourceforms.errors import InvalidForm, InvalidOperation, InvalidTable, Refused
from sourceforms.form.forms import Form
from sourceforms.prime import changes as module
from sourceforms.prime.changes import changes_between, is_like_paper, kept_kind, kept_tables, like_paper, table_order
from sourceforms.prime.fields import PrimeForm, led_point, plain_table
from tests.support import BENT, CUBIC, FOUR, LONG, NO_INTEGERS, NO_TUPLES, QUAD, SIX, Case, matrix_product, picker
from tests.test_fields import NO_PRIMES, PRIMES, UNIT, points_of, some_prime_form, some_prime_table
from tests.test_sources import NO_FORMS
from tests.test_worst import NO_TABLES

NAMES = {**vars(errors), **vars(module), "Form": Form, "CUBIC": CUBIC, "FOUR": FOUR, "SIX": SIX, "BENT": BENT}
TWELVE = Form((0, 1, 0, 0, 0, 0, 11, 0, 0, 0, 0, -1, 0))
HEX, TRI, TETRA = PrimeForm.of_form(SIX, 13), PrimeForm.of_form(CUBIC, 13), PrimeForm.of_form(FOUR, 13)
HALF, THIRD = PrimeForm(13, (0, 1, 10, 2, 0)), PrimeForm(13, (0, 1, 9, 3, 0))
NO_PRIME_FORMS = NO_FORMS + (CUBIC, 13)
# How many tables have which order, by the kind.
ORDERS = {"four": {1: 1, 2: 3, 3: 8}, "six": {1: 1, 2: 9, 3: 8, 4: 6}, "twelve": {1: 1, 2: 15, 3: 20, 5: 24}}


def plain_tables(p):
    """All plain tables, ascending."""
    found = [((0, 1), (r, s)) for r in range(1, p) for s in range(p)]
    return sorted(found + [((1, q), (r, s)) for q, r, s in product(range(p), repeat=3) if (s - q * r) % p])


def small_product(one, other, p):
    return tuple(tuple(part % p for part in row) for row in matrix_product(one, other))


def leads(table, one, other):
    """By the definition: the changed form is a multiple of the other one."""
    return one.changed(table).plain == other.plain


def undone(table, p):
    (q, r), (s, t) = table
    return plain_table(p, ((t, -r), (-s, q)))


class Between(Case, unittest.TestCase):
    def test_by_trial(self):
        """All tables are tried, for many forms with one root, two, or more of them."""
        pick = picker(701)
        tables = plain_tables(13)
        self.assertEqual(len(tables), 13 ** 3 - 13)
        rows = [(1, 0), (3, 5), (0, 1, 0), (1, 0, 11), (1, 0, 1), (1, 2, 1), (1, 0, 0, 0), (0, 0, 1, 0), (1, 3, 3, 1), (1, 1, 0, 0),
                (0, 1, 0, 5, 0), (1, 0, -4, 0, 4), (0, 1, 0, 0, 0, -1, 0), (1, 0, 10, 1), (1, 0, 0, 1, 0), (0, 0, 1, 0, 0, 0, 0)]
        for row in rows + [some_prime_form(pick, 13, pick.randint(1, 6)).entries for _ in range(8)]:
            one = PrimeForm(13, row)
            if one.is_zero:
                continue
            for other in (one, one.changed(pick.choice(tables)), some_prime_form(pick, 13, one.degree)):
                if not other.is_zero:
                    wanted = [table for table in tables if leads(table, one, other)]
                    self.assertEqual(list(changes_between(one, other)), wanted)

    def test_numbers(self):
        for p in (13, 19, 47, 101):
            for degree in (1, 2, 7, 12):
                form = PrimeForm(p, (1,) + (0,) * degree)
                self.assertEqual(len(list(changes_between(form, form))), p * (p - 1))
            for row in ((0, 0, 1, 0), (0,) * 11 + (1, 0), (0, 1, 0, 0, 0)):
                form = PrimeForm(p, row)
                self.assertEqual(len(list(changes_between(form, form))), p - 1)
            other = next(k for k in range(2, p) if pow(k, (p - 1) // 2, p) != 1)
            points, none = PrimeForm(p, (0, 1, 0)), PrimeForm(p, (1, 0, -other))
            for form, wanted in ((points, 2 * (p - 1)), (none, 2 * (p + 1))):
                for made in (form, form * form * form, form.changed(((2, 3), (1, 5)))):
                    self.assertEqual(len(list(changes_between(made, made))), wanted)
            self.assertEqual(list(changes_between(points, none)), [])

    def test_groups(self):
        """Tables that lead to a form are the kept ones, each times one of them; products of tables lead on."""
        pick = picker(702)
        for p in (13, 37, 101):
            for _ in range(12):
                one = some_prime_form(pick, p, pick.randint(3, 12))
                if len(one.pattern()) < 3:
                    continue
                first, second = some_prime_table(pick, p), some_prime_table(pick, p)
                other = one.changed(first)
                found = list(changes_between(one, other))
                self.assertIn(plain_table(p, first), found)
                self.assertEqual(found, sorted(set(found)))
                kept = list(changes_between(one, one))
                self.assertEqual(found, sorted(plain_table(p, small_product(table, found[0], p)) for table in kept))
                self.assertIn(plain_table(p, small_product(first, second, p)), list(changes_between(one, other.changed(second))))

    def test_roots_are_led(self):
        for table in changes_between(TETRA, PrimeForm(13, (2, 1, 7, 7, 1))):
            for point in PrimeForm(13, (2, 1, 7, 7, 1)).roots():
                self.assertIn(led_point(13, table, point), TETRA.roots())

    def test_first_one_is_asked_for(self):
        late = changes_between(TETRA, CUBIC)
        self.refuses(InvalidForm, {}, next, late)
        one, other = changes_between(HEX, HEX), changes_between(HEX, HEX)
        self.assertEqual([next(one), next(one), next(other)], [next(changes_between(HEX, HEX)), list(changes_between(HEX, HEX))[1],
                                                               next(changes_between(HEX, HEX))])

    def test_refuses(self):
        zero = PrimeForm(13, (0, 0, 0, 0))
        for call in (lambda one, other: list(changes_between(one, other)), like_paper,
                     lambda one, other: is_like_paper(one, other, ("none",))):
            for value in NO_PRIME_FORMS:
                self.refuses(InvalidForm, {}, call, value, TRI)
                self.refuses(InvalidForm, {}, call, value, None)
                self.refuses(InvalidForm, {}, call, zero, value)
            for one, other in ((TRI, TETRA), (TETRA, TRI), (TRI, zero), (zero, TRI), (zero, zero), (zero, TETRA),
                               (PrimeForm(13, (1,)), PrimeForm(13, (1,))), (PrimeForm(13, (1,)), TRI),
                               (TRI, PrimeForm(17, TRI.entries)), (PrimeForm(13, (0,)), PrimeForm(13, (0,)))):
                self.refuses(InvalidOperation, {}, call, one, other)


class Papers(Case, unittest.TestCase):
    def pairs(self):
        pick = picker(703)
        found = [(HALF, THIRD), (TETRA, HALF), (TRI, TRI), (TETRA, PrimeForm(13, (2, 1, 7, 7, 1)))]
        for _ in range(60):
            one = some_prime_form(pick, pick.choice((13, 17, 101)), pick.randint(1, 8))
            other = one.changed(some_prime_table(pick, one.prime)) if pick.randint(0, 1) else some_prime_form(pick, one.prime, one.degree)
            if not one.is_zero and not other.is_zero:
                found.append((one, other * PrimeForm(one.prime, (pick.randint(1, 9),))))
        return found

    def test_papers(self):
        words = {"table": 0, "pattern": 0, "none": 0}
        for one, other in self.pairs():
            tables = list(changes_between(one, other))
            paper = like_paper(one, other)
            patterns = ("pattern", one.pattern(), other.pattern())
            unlike = one.pattern() != other.pattern()
            right = [("table", table) for table in tables] + [("none",)] * (not tables) + [patterns] * unlike
            words["table" if tables else "pattern" if unlike else "none"] += 1
            self.assertIn(paper, right)
            for value in (paper, ("none",), patterns, ("pattern", other.pattern(), one.pattern())):
                self.assertIs(is_like_paper(one, other, value), value in right)
            for table in tables[:2]:
                (q, r), (s, t) = table
                for k in (1, 5, -2, 10 ** 70 + 1):
                    if k % one.prime:
                        value = ((q * k + one.prime * 10 ** 65, r * k), (s * k, t * k - one.prime))
                        self.assertIs(is_like_paper(one, other, ("table", value)), True)
                self.assertIs(is_like_paper(one, other, ("table", ((q * one.prime, r), (s * one.prime, t)))), False)
        self.assertGreater(min(words.values()), 0)
        self.assertGreater(words["table"], 20)

    def test_wrong_tables(self):
        for one, other in ((TETRA, PrimeForm(13, (2, 1, 7, 7, 1))), (TRI, TRI), (PrimeForm(13, (0, 1, 0)), PrimeForm(13, (1, 0, 12)))):
            for table in plain_tables(13)[::5]:
                self.assertIs(is_like_paper(one, other, ("table", table)), leads(table, one, other))
        power = PrimeForm(13, (1, 0, 0))
        for table in (((1, 1), (0, 0)), ((0, 0), (0, 0)), ((1, 0), (0, 13)), ((2, 4), (1, 2))):
            self.assertIs(is_like_paper(power, power, ("table", table)), False)

    def test_any_value_is_judged(self):
        three = ((1, 1), (1, 1), (1, 1))
        other = PrimeForm(13, (0, 1, -3, 2))
        self.assertEqual(other.pattern(), three)
        self.assertIs(is_like_paper(TRI, other, ("pattern", ((3, 1),), three)), True)
        for value in (("pattern", ((3, True),), three), ("pattern", ((3, 1),), ((True, 1), (1, 1), (1, 1))), ("pattern", ((3, 1),)),
                      ("pattern", [(3, 1)], three), ("pattern", ((3, 1),), list(three)), ("pattern", ((3, 1),), three, 1),
                      ("pattern", ([3, 1],), three), ("pattern", ((3, 1),), None), ("pattern", ((3, 1),), (1, 1, 1))):
            self.assertIs(is_like_paper(TRI, other, value), False)
        for one, there in ((TRI, TRI), (TRI, other), (HALF, THIRD)):
            for value in NO_TUPLES + ((), ("table",), ("table", UNIT, 1), ("none", 1), ["none"], "none", ("None",), (True,), (0,),
                                      (None,), ("pattern",), (UNIT,), (("table", UNIT),), {"none": 1}, ("tables", UNIT), (1, UNIT),
                                      (UNIT, "table"), ("table", TRI), (TRI,), ("none", "none"), LONG):
                self.assertIs(is_like_paper(one, there, value), False)
        for value in NO_TABLES:
            self.assertIs(is_like_paper(TRI, TRI, ("table", value)), False)
        self.assertIs(is_like_paper(TRI, TRI, ("table", ((True, 0), (0, 1)))), False)
        self.assertIs(is_like_paper(TRI, TRI, ("table", UNIT)), True)


class Kept(Case, unittest.TestCase):
    def check(self, form):
        """The tables keep the form, they are a group, and their orders are those of the kind."""
        p = form.prime
        tables = kept_tables(form)
        self.assertEqual(tables, tuple(sorted(set(tables))))
        self.assertEqual(tables, tuple(changes_between(form, form)))
        self.assertLessEqual(len(tables), 60)
        for one in tables:
            self.assertTrue(leads(one, form, form))
            self.assertIn(undone(one, p), tables)
        for one in tables[:6]:
            for other in tables:
                self.assertIn(plain_table(p, small_product(one, other, p)), tables)
        orders = {}
        for table in tables:
            order = table_order(p, table)
            orders[order] = orders.get(order, 0) + 1
        kind = kept_kind(form)
        if kind[0] == "ring":
            k = kind[1]
            self.assertEqual((len(tables), max(orders)), (k, k))
        elif kind[0] == "mirrors":
            k = kind[1]
            self.assertEqual((len(tables), k >= 2), (2 * k, True))
            turn = next(table for table in tables if table_order(p, table) == k)
            ring = [UNIT]
            while len(ring) < k:
                ring.append(plain_table(p, small_product(ring[-1], turn, p)))
            for table in tables:
                if table not in ring:
                    self.assertEqual(table_order(p, table), 2)
                    around = small_product(small_product(table, turn, p), table, p)
                    self.assertEqual(plain_table(p, around), undone(turn, p))
            self.assertEqual(len([table for table in tables if table not in ring]), k)
        else:
            self.assertEqual((len(kind), orders), (1, ORDERS[kind[0]]))
        return kind

    def test_solids(self):
        for p in PRIMES:
            kinds = [self.check(PrimeForm.of_form(form, p)) for form in (FOUR, SIX)]
            self.assertIn(kinds[1], (("six",), ("four",), ("mirrors", 4), ("mirrors", 3), ("mirrors", 2)))
            form = PrimeForm.of_form(TWELVE, p)
            if all(often == 1 for _, often in form.pattern()):
                kind = self.check(form)
                self.assertEqual(60 % len(kept_tables(form)), 0)
                if p in (41, 61, 101):
                    self.assertEqual(kind, ("twelve",))

    def test_all_kinds(self):
        pick = picker(704)
        kinds = {}
        for p in (13, 17, 31, 61, 101):
            rows = [(1,) + (0,) * (n - 1) + (c,) for n in range(3, 13) for c in (1, -1, 2)]
            rows += [(0,) + row + (0,) for row in rows if len(row) < 11] + [(0,) + row for row in rows if len(row) < 12]
            rows += [some_prime_form(pick, p, pick.randint(3, 8)).entries for _ in range(15)]
            for row in rows:
                form = PrimeForm(p, row)
                if not form.is_zero and sum(degree for degree, _ in form.pattern()) > 2:
                    kind = self.check(form)
                    kinds[kind] = kinds.get(kind, 0) + 1
                    if pick.randint(0, 5) == 0:
                        self.assertEqual(kept_kind(form.changed(some_prime_table(pick, p))), kind)
        for wanted in (("ring", 1), ("ring", 2), ("ring", 3), ("ring", 4), ("mirrors", 2), ("mirrors", 3), ("mirrors", 4), ("mirrors", 6)):
            self.assertIn(wanted, kinds)

    def test_refuses(self):
        for call in (kept_tables, kept_kind):
            for value in NO_PRIME_FORMS:
                self.refuses(InvalidForm, {}, call, value)
            for degree in (0, 1, 3, 12):
                self.refuses(InvalidOperation, {}, call, PrimeForm(13, (0,) * (degree + 1)))
            for row, many in (((5,), 0), ((1, 2), 1), ((0, 1), 1), ((1, 2, 1), 1), ((1,) + (0,) * 12, 1), ((0, 1, 0), 2),
                              ((1, 0, 11), 2), ((1, 0, 11, 0), 3), ((0,) * 6 + (1,) + (0,) * 6, 2), ((1, 0, -4, 0, 4), 2)):
                form = PrimeForm(13, row)
                if many < 3:
                    self.refuses(Refused, {"reason": ("roots", many)}, call, form)
                else:
                    self.assertTrue(call(form))


class Orders(Case, unittest.TestCase):
    def test_orders(self):
        pick = picker(705)
        for p in (13, 17, 59, 101):
            for _ in range(40):
                table = some_prime_table(pick, p, pick.choice((None, 3, 10 ** 59)))
                small = tuple(tuple(part % p for part in row) for row in table)
                left, wanted = small, 1
                while left[0][1] or left[1][0] or left[0][0] != left[1][1]:
                    left, wanted = small_product(left, small, p), wanted + 1
                self.assertEqual(table_order(p, table), wanted)
                self.assertTrue(p * (p - 1) * (p + 1) % wanted == 0)
        for p in PRIMES:
            self.assertEqual((table_order(p, ((1, 1), (0, 1))), table_order(p, UNIT), table_order(p, ((7, 0), (0, 7)))), (p, 1, 1))
            self.assertEqual(table_order(p, ((0, 1), (1, 0))), 2)

    def test_refuses(self):
        for value in NO_PRIMES:
            self.refuses_number(value, table_order, value, None)
        for value in NO_TABLES + (((LONG, 0), (0, 1)),):
            self.refuses(InvalidTable, {}, table_order, 13, value)
        for value in (((0, 0), (0, 0)), ((1, 2), (2, 4)), ((13, 0), (0, 1)), ((1, 2), (2, 17)), ((2, 3), (1, 8))):
            self.refuses(InvalidOperation, {}, table_order, 13, value)
        for value in NO_INTEGERS:
            self.refuses_number(value, table_order, value, UNIT)


class Statements(Case, unittest.TestCase):
    def test_what_is_not_true(self):
        self.assertEqual((HALF.pattern() == THIRD.pattern(), list(changes_between(HALF, THIRD))), (True, []))
        self.assertNotEqual(len(kept_tables(HEX)), len(kept_tables(PrimeForm.of_form(SIX, 19))))
        table = kept_tables(PrimeForm.of_form(CUBIC, 17))[0]
        roots = PrimeForm.of_form(CUBIC, 17).roots()
        self.assertNotEqual([led_point(17, table, point) for point in roots], list(roots))
        many = [table for table in kept_tables(HALF) if table_order(13, table) == 2]
        self.assertEqual((kept_kind(HALF), len(many)), (("mirrors", 4), 5))
        self.assertEqual(len(points_of(13)), 14)
        self.assertEqual(PrimeForm.of_form(QUAD, 17).pattern(), ((1, 1), (1, 1)))


class Examples(Case, unittest.TestCase):
    def test_document(self):
        self.run_examples("""
>>> from sourceforms.prime.fields import PrimeForm
>>> HEX, TRI, TETRA = PrimeForm.of_form(SIX, 13), PrimeForm.of_form(CUBIC, 13), PrimeForm.of_form(FOUR, 13)
>>> [len(kept_tables(HEX)), kept_kind(HEX), kept_kind(PrimeForm.of_form(SIX, 19)), kept_kind(TETRA), kept_kind(TRI)]
[24, ('six',), ('mirrors', 4), ('four',), ('ring', 3)]
>>> [kept_tables(TRI), kept_kind(PrimeForm.of_form(CUBIC, 17))]
[(((0, 1), (12, 1)), ((1, 0), (0, 1)), ((1, 12), (1, 0))), ('mirrors', 3)]
>>> [len(list(changes_between(PrimeForm(13, row), PrimeForm(13, row)))) for row in ((1, 0, 0, 0), (0, 1, 0, 0), (0, 1, 0), (1, 0, 11))]
[156, 12, 24, 28]
>>> LED = PrimeForm(13, (2, 1, 7, 7, 1))
>>> [list(changes_between(TETRA, LED))[:2], is_like_paper(TETRA, LED, ("table", ((14, 2), (3, -9))))]
[[((1, 2), (1, 10)), ((1, 2), (3, 4))], True]
>>> HALF, THIRD = PrimeForm(13, (0, 1, 10, 2, 0)), PrimeForm(13, (0, 1, 9, 3, 0))
>>> [like_paper(HALF, THIRD), HALF.pattern() == THIRD.pattern(), kept_kind(HALF), kept_kind(THIRD)]
[('none',), True, ('mirrors', 4), ('mirrors', 2)]
>>> [table_order(13, table) for table in (((1, 1), (0, 1)), ((0, 1), (1, 0)), ((2, 0), (0, 1)), ((1, 5), (7, 4)))]
[13, 2, 12, 14]
>>> kept_tables(PrimeForm(13, (0, 1, 0)))
raises Refused(("roots", 2))
""", NAMES)

    def test_places(self):
        for call in (changes_between, like_paper, is_like_paper, kept_tables, table_order, kept_kind):
            self.assertEqual(call.__module__, "sourceforms.prime.changes")


if __name__ == "__main__":
    unittest.main()
