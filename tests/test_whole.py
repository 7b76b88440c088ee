"""What goes across the stages: changed forms, forms that are told by points, pencils beside killers, main statements."""

import unittest
from fractions import Fraction
from math import factorial, prod

from sourceforms.base.tables import rank, signature
from sourceforms.count.boxes import covariant_count
from sourceforms.desk.desk import Desk
from sourceforms.fall.worst import fall_kind, fall_paper, greatest_times, told_invariants
from sourceforms.form.forms import Form, factor_between, line_of
from sourceforms.form.layings import laid, pair_table, table_parts
from sourceforms.mirror.klein import klein_kind, klein_paper, power_paper
from sourceforms.pencil.pencils import are_one_pencil, double_member, is_pencil_row, pencil_basis, pencil_row, pencils_of
from sourceforms.power.killers import does_kill, killed, killed_by, killer_ranks, killers, two_killers
from sourceforms.power.powers import is_powers_paper, least_powers, numbers_at, powers_paper, powers_sum
from sourceforms.prime.changes import like_paper
from sourceforms.prime.fields import PrimeForm
from sourceforms.root.common import bezout_table, common_form, discriminant, plain_part, resultant, times_parts
from sourceforms.root.reals import definite_paper, distinct_count, real_count, spans
from sourceforms.sums.exchange import exchanged
from sourceforms.sums.sources import covariant_at, source_basis
from sourceforms.sums.sums import Sum
from sourceforms.text.strings import read_value, write_value
from tests.support import FOUR, QUAD, SIX, Case, determinant_of, matrix_product, picker, product_of, rank_of, some_change
from tests.support import some_form, some_point, some_points
from tests.test_common import sylvester
from tests.test_forms import value_of
from tests.test_pencils import some_pairs


def undone(table):
    """The table times which a table is its determinant times the table that changes nothing."""
    (p, q), (r, s) = table
    return ((s, -q), (-r, p))


class Changed(Case, unittest.TestCase):
    def pairs(self, seed, many, most_degree=7, most=4):
        pick = picker(seed)
        for _ in range(many):
            form = some_form(pick, pick.randint(0, most_degree), most)
            table = some_change(pick, 3)
            yield pick, form, table, form.changed(table)

    def test_forms_and_layings(self):
        for pick, form, table, changed in self.pairs(951, 30):
            t = determinant_of(table)
            more = some_change(pick, 3)
            self.assertEqual(changed.changed(more), form.changed(matrix_product(table, more)))
            self.assertEqual(changed.changed(undone(table)), form * t ** form.degree)
            other = some_form(pick, pick.randint(0, 5))
            for k in range(min(form.degree, other.degree) + 1):
                self.assertEqual(laid(changed, other.changed(table), k), laid(form, other, k).changed(table) * t ** k)

    def test_covariants(self):
        for degree, size, weight in ((2, 2, 2), (3, 2, 2), (3, 4, 6), (4, 2, 4), (4, 3, 6), (5, 2, 4)):
            for source in source_basis(degree, size, weight):
                for seed in range(4):
                    for _, form, table, _ in self.pairs(952 + seed, 3):
                        form = some_form(picker(seed), degree, 3)
                        wanted = covariant_at(source, form).changed(table) * determinant_of(table) ** weight
                        self.assertEqual(covariant_at(source, form.changed(table)), wanted)

    def test_kinds(self):
        for _, form, table, changed in self.pairs(953, 60):
            if form.is_zero:
                self.assertTrue(changed.is_zero)
                continue
            self.assertEqual(greatest_times(changed), greatest_times(form))
            self.assertEqual(power_paper(changed)[0], power_paper(form)[0])
            if form.degree:
                self.assertEqual(fall_kind(changed), fall_kind(form))
            if form.degree >= 4:
                self.assertEqual(klein_kind(changed), klein_kind(form))

    def test_killers_and_powers(self):
        for _, form, table, changed in self.pairs(954, 30):
            (p, q), (r, s) = table
            self.assertEqual(killer_ranks(changed), killer_ranks(form))
            self.assertEqual(least_powers(changed), least_powers(form))
            for degree in range(form.degree + 1):
                for one in killers(form, degree):
                    self.assertTrue(does_kill(one.changed(((s, -r), (-q, p))), changed))

    def test_roots(self):
        for _, form, table, changed in self.pairs(955, 50, 8):
            t, n = determinant_of(table), form.degree
            if form.is_zero:
                continue
            if n >= 2:
                self.assertEqual(discriminant(changed), t ** (n * (n - 1)) * discriminant(form))
            self.assertEqual(plain_part(changed), plain_part(form).changed(table).primitive)
            parts = {often: part.changed(table).primitive for often, part in times_parts(form).items()}
            self.assertEqual(times_parts(changed), parts)
            self.assertEqual((distinct_count(changed), real_count(changed)), (distinct_count(form), real_count(form)))
            self.assertEqual(definite_paper(changed)[0] == "sign", definite_paper(form)[0] == "sign")

    def test_texts(self):
        for _, form, table, changed in self.pairs(956, 30):
            for value in (form, table, changed, (form, changed)):
                self.assertEqual(read_value(write_value(value)), value)
            self.assertEqual(str(changed), write_value(changed))

    def test_desks(self):
        for _, form, table, changed in self.pairs(957, 30):
            desk = Desk()
            desk.keep("f", form)
            desk.keep("g", form)
            desk.promise("a", ("like", "f", "g"))
            desk.change(table)
            self.assertEqual((desk.form("f"), read_value(write_value(desk.form("g")))), (changed, changed))

    def test_modulo_primes(self):
        for _, form, table, changed in self.pairs(958, 30, 8):
            for p in (13, 29):
                one, other = PrimeForm.of_form(form, p), PrimeForm.of_form(changed, p)
                if determinant_of(table) % p and not one.is_zero and form.degree:
                    self.assertEqual(one.pattern(), other.pattern())
                    self.assertEqual(like_paper(one, other)[0], "table")


class Points(Case, unittest.TestCase):
    """Everything about a product of lines, and about a sum of powers, is told by the points."""

    def lots(self, seed, many, most=4):
        """Lots of points, each with how often it is taken."""
        pick = picker(seed)
        for _ in range(many):
            yield pick, [(point, pick.randint(1, 3)) for point in some_points(pick, pick.randint(1, most))], pick.choice((1, -1, 6))

    def test_products(self):
        for pick, lot, number in self.lots(961, 80):
            form = Form.of_points(tuple(point for point, often in lot for _ in range(often))) * number
            n, times = form.degree, dict(lot)
            self.assertEqual(n, sum(times.values()))
            for point in list(times) + some_points(pick, 3, 9):
                self.assertEqual(form.times_at(point), times.get(point, 0))
                self.assertEqual(value_of(form.entries, *point) == 0, point in times)
            most = max(times.values())
            self.assertEqual(greatest_times(form), most)
            self.assertEqual(fall_kind(form), "falls" if 2 * most > n else "edge" if 2 * most == n else "stands")
            if n <= 6:
                self.assertEqual(fall_paper(form)[0] == "push", 2 * most > n)
                self.assertEqual(any(told_invariants(form)), 2 * most <= n)
            self.assertEqual(plain_part(form), Form.of_points(tuple(times)).primitive)
            for often, part in times_parts(form).items():
                self.assertEqual(part, Form.of_points(tuple(point for point in times if times[point] == often)).primitive)
            self.assertEqual((distinct_count(form), real_count(form)), (len(times), len(times)))
            if 2 <= n <= 12:
                lines = [(point[1], -point[0]) for point, often in lot for _ in range(often)]
                wanted = prod((a[0] * b[1] - a[1] * b[0]) ** 2 for k, a in enumerate(lines) for b in lines[k + 1:])
                self.assertEqual(discriminant(form), wanted * number ** (2 * n - 2))
                self.assertEqual(len(spans(form)), len([point for point in times if point != (1, 0)]))
                self.assertEqual(definite_paper(form)[0], "end" if (1, 0) in times else "root")
            for p in (31, 101):
                small = PrimeForm.of_form(form, p) if n <= 12 else None
                if small is not None and number % p:
                    self.assertEqual(sum(degree * often for degree, often in small.pattern()), n)
                    self.assertTrue(all(degree == 1 for degree, _ in small.pattern()))

    def test_two_products(self):
        for pick, lot, number in self.lots(962, 60, 3):
            form = Form.of_points(tuple(point for point, often in lot for _ in range(often))) * number
            other_lot = {point: pick.randint(1, 2) for point in some_points(pick, 2, 3)}
            if pick.randint(0, 1):
                other_lot[lot[0][0]] = pick.randint(1, 3)
            other = Form.of_points(tuple(point for point, often in other_lot.items() for _ in range(often)))
            shared = [point for point, often in lot for _ in range(min(often, other_lot.get(point, 0)))]
            self.assertEqual(common_form(form, other), Form.of_points(tuple(shared)).primitive)
            wanted = number ** other.degree * prod(value_of(other.entries, *point) ** often for point, often in lot)
            self.assertEqual(resultant(form, other), wanted)
            self.assertEqual(rank_of(sylvester(form, other)), form.degree + other.degree - len(shared))
            if form.degree == other.degree:
                self.assertEqual(rank(bezout_table(form, other)), form.degree - len(shared))
            if shared:
                continue
            one = killed_by(form, other)
            self.assertTrue(does_kill(form, one) and does_kill(other, one))

    def test_sums_of_powers(self):
        for pick, lot, number in self.lots(963, 60):
            points, n = [point for point, _ in lot], pick.randint(len(lot), 9)
            numbers = [pick.choice((1, -2, 3)) for _ in points]
            terms = tuple(((k, 1), point) for k, point in zip(numbers, points))
            form = powers_sum(n, terms)
            self.assertEqual(form, sum((Form.power(point, n) * k for k, point in zip(numbers, points)), Form((0,) * (n + 1))))
            self.assertEqual(numbers_at(form, tuple(points)), tuple((k, 1) for k in numbers))
            lines = Form.of_points(tuple(points))
            self.assertTrue(does_kill(lines, form))
            self.assertTrue(killed(lines, form).is_zero)
            self.assertIs(is_powers_paper(form, len(points), ("powers", terms)), True)
            if 2 * len(points) <= n + 1:
                self.assertEqual((max(killer_ranks(form)), least_powers(form)), (len(points), len(points)))
                self.assertEqual(two_killers(form)[0], lines.primitive)
                self.assertEqual(set(powers_paper(form, len(points))[1]), set(terms))
            if len(points) == 1:
                a, b = points[0]
                self.assertEqual(power_paper(form)[0], "power")
                self.assertEqual(fall_kind(form), "falls")

    def test_all_powers(self):
        """Powers of n + 1 different points make each form in just one way."""
        pick = picker(964)
        for n in range(0, 9):
            form, points = some_form(pick, n), tuple(some_points(pick, n + 1))
            numbers = numbers_at(form, points)
            total = [sum(Fraction(*ratio) * entry for ratio, entry in zip(numbers, row))
                     for row in zip(*[Form.power(point, n).entries for point in points])]
            self.assertEqual(total, list(form.entries))


class Pencils(Case, unittest.TestCase):
    def test_killers_make_pencils(self):
        """The two killers of a form of an even degree n with the rank n / 2 + 1 span a pencil; the form is told by it."""
        pick = picker(971)
        for _ in range(30):
            n = pick.choice((2, 4, 6))
            form = some_form(pick, n)
            if form.is_zero or max(killer_ranks(form)) != n // 2 + 1:
                continue
            one, other = two_killers(form)
            self.assertEqual(pencil_basis(one, other), killers(form, n // 2 + 1))
            table = some_change(pick, 3)
            pair = (one * table[0][0] + other * table[0][1], one * table[1][0] + other * table[1][1])
            self.assertIs(are_one_pencil(one, other, *pair), True)
            self.assertEqual(killed_by(*pair), form.primitive)
            self.assertEqual(common_form(*pair).degree, 0)

    def test_common_roots_of_members(self):
        for one, other in some_pairs(972, 60, 5):
            shared = common_form(one, other)
            for member in (one + other, one * 3 - other * 2):
                if not member.is_zero:
                    self.assertIsNotNone(member.quotient(shared))
            if 2 * one.degree <= 24:
                self.assertEqual(resultant(one, other) == 0, shared.degree > 0)

    def test_first_layings(self):
        pick = picker(973)
        for one, other in some_pairs(974, 60, 5):
            first = pencil_row(one, other)[0]
            for point in some_points(pick, 3, 3) + [(1, 0), (0, 1)]:
                if one.degree > 1:
                    self.assertEqual(double_member(one, other, point) is None, value_of(first.entries, *point) != 0)
            table = some_change(pick, 3)
            changed = pencil_row(one.changed(table), other.changed(table))[0]
            self.assertEqual(changed, first.changed(table) * determinant_of(table))

    def test_parts_of_pair_tables(self):
        """The row of two forms are the odd parts of the difference of both pair tables, but for numbers."""
        for one, other in some_pairs(975, 40, 5):
            first, second = pair_table(one, other), pair_table(other, one)
            less = tuple(tuple(a - b for a, b in zip(*rows)) for rows in zip(first, second))
            if max(abs(entry) for row in less for entry in row) < 10 ** 60:
                parts = table_parts(less)
                self.assertTrue(all(part.is_zero for part in parts[::2]))
                self.assertEqual(parts[1::2], tuple(form * 2 for form in pencil_row(one, other)))
                self.assertEqual(rank_of(less), 2)

    def test_pencils_modulo_primes(self):
        for one, other in some_pairs(976, 40, 6):
            for p in (13, 101):
                small = [PrimeForm.of_form(form, p) for form in (one, other)]
                for k, part in zip(range(1, one.degree + 1, 2), pencil_row(one, other)):
                    self.assertEqual(small[0].laid(small[1], k), PrimeForm.of_form(part, p))

    def test_degree_3(self):
        pick = picker(977)
        for _ in range(40):
            one, other = some_form(pick, 3, 3), some_form(pick, 3, 3)
            if rank_of([one.entries, other.entries]) == 2:
                first = laid(one, other, 1)
                self.assertTrue(any(are_one_pencil(one, other, *basis) for basis in pencils_of(first)))
                self.assertTrue(any(is_pencil_row(one, other, pencil_row(*basis)) for basis in pencils_of(first)))


class Statements(Case, unittest.TestCase):
    def test_worst_forms(self):
        pick = picker(981)
        for _ in range(60):
            point, n = some_point(pick), pick.randint(1, 6)
            often = pick.randint(0, n)
            form = product_of([line_of(point)] * often) * some_form(pick, n - often, 3)
            if not form.is_zero:
                self.assertEqual(fall_kind(form) == "falls", not any(told_invariants(form)))
                word, shown = fall_paper(form)
                if word == "push":
                    self.assertFalse(any(form.changed(shown).entries[:n // 2 + 1]))

    def test_told_by_layings(self):
        self.assertEqual([klein_paper(form)[0] for form in (FOUR, SIX)], ["four", "six"])
        self.assertEqual(power_paper(Form.power((2, 3), 6))[0], "power")

    def test_what_is_not_true(self):
        """[0.16]: each of the statements fails for some forms."""
        self.assertEqual(told_invariants(QUAD), told_invariants(Form((2, 0, -1))))
        form = Form((1, 0, 1, 0))
        self.assertEqual((least_powers(form), powers_paper(form, 2)[0]), (2, "killer"))
        first = Sum.entry(3, 2)
        twice = exchanged(exchanged(first))
        self.assertEqual(twice.terms, first.terms)
        found = []
        for degree in (3, 4):
            for size in (3, 4):
                for weight in range(2, degree * size // 2 + 1):
                    for source in source_basis(degree, size, weight):
                        again = exchanged(exchanged(source))
                        lead = next(iter(source.terms))
                        found.append(all(source.terms.get(key, 0) * again.terms.get(lead, 0) == again.terms.get(key, 0) * source.terms[lead]
                                         for key in {**source.terms, **again.terms}))
        self.assertIn(False, found)

    def test_counts(self):
        for degree in (2, 3, 4):
            for size in range(1, 5):
                for weight in range(degree * size // 2 + 1):
                    self.assertEqual(len(source_basis(degree, size, weight)), covariant_count(degree, size, degree * size - 2 * weight))

    def test_factorials_of_powers(self):
        """[3.2]: the laying with a power tells a value; so it does for what the power is acted on."""
        pick = picker(982)
        for _ in range(30):
            form, (a, b) = some_form(pick, pick.randint(1, 7)), some_point(pick)
            n = form.degree
            self.assertEqual(laid(form, Form.power((a, b), n), n).entries, (factorial(n) ** 2 * value_of(form.entries, b, -a),))
            self.assertEqual(killed(form, Form.power((a, b), n)).entries, (factorial(n) * value_of(form.entries, a, b),))

    def test_signatures(self):
        pick = picker(983)
        for _ in range(40):
            form = some_form(pick, pick.randint(2, 8))
            if not form.is_zero:
                table = bezout_table(form.derived(0, 1), form.derived(1, 0))
                self.assertEqual((signature(table) + 1, rank(table) + 1), (real_count(form), distinct_count(form)))

    def test_factors(self):
        pick = picker(984)
        for _ in range(30):
            form = some_form(pick, pick.randint(1, 6))
            if not form.is_zero:
                self.assertEqual(factor_between(form, form * -7), (-7, 1))
                whole = product_of([part for often, part in times_parts(form).items() for _ in range(often)])
                self.assertEqual(whole, form.primitive)


if __name__ == "__main__":
    unittest.main()
