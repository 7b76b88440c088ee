import re
import unittest

from sourceforms import errors
from sourceforms.errors import InvalidOperation, ParseError, TooMany
from sourceforms.form.forms import Form
from sourceforms.prime.fields import PrimeForm
from sourceforms.sums.sums import Sum
from sourceforms.text import strings as module
from sourceforms.text.strings import read_value, write_value
from tests.support import BENT, CUBIC, FOUR, LET, LONG, NO_TUPLES, QUAD, SIX, Case, picker, some_change, some_form, some_table, whole_form
from tests.test_fields import PRIMES
from tests.test_sums import some_sums

NAMES = {**vars(errors), **vars(module), "Form": Form, "Sum": Sum, "PrimeForm": PrimeForm,
         "QUAD": QUAD, "CUBIC": CUBIC, "FOUR": FOUR, "SIX": SIX, "BENT": BENT}
WHOLE = re.compile("0|-?[1-9][0-9]{0,59}")
FACTOR = re.compile(r"c([0-8])(?:\^([2-9]|1[0-2]))?")


def integer(part):
    return WHOLE.fullmatch(part) is not None


def spot_of(text):
    """The spot of a text that is none, None for one that is one: by patterns, part by part, as [20.3] tells them."""
    if not isinstance(text, str) or len(text) > 20000:
        return 0
    parts = text.split(" ")
    judge = {"form": form_spot, "prime": prime_spot, "sum": sum_spot, "change": change_spot, "forms": forms_spot}.get(parts[0])
    return 0 if judge is None else judge(parts)


def form_spot(parts):
    for k, part in enumerate(parts[1:], 1):
        if not integer(part) or k > 41:
            return k
    return 1 if len(parts) == 1 else None


def prime_spot(parts):
    if len(parts) == 1:
        return 1
    if parts[1] not in [str(prime) for prime in PRIMES]:
        return 1
    for k, part in enumerate(parts[2:], 2):
        if part not in [str(number) for number in range(int(parts[1]))] or k > 14:
            return k
    return 2 if len(parts) == 2 else None


def change_spot(parts):
    for k, part in enumerate(parts[1:], 1):
        if not integer(part) or k > 4:
            return k
    return len(parts) if len(parts) < 5 else None


def forms_spot(parts):
    run = signs = 0
    for k, part in enumerate(parts[1:], 1):
        if part == ";" and run and signs < 19:
            run, signs = 0, signs + 1
        elif integer(part) and run < 41:
            run += 1
        else:
            return k
    return None if run else len(parts)


def sum_spot(parts):
    if len(parts) == 1 or re.fullmatch("[1-8]", parts[1]) is None:
        return 1
    degree, terms, last = int(parts[1]), [], None
    for k, part in enumerate(parts[2:], 2):
        if k == 2 or parts[k - 1] == "+":
            if not integer(part) or part == "0":
                return k
            terms.append([0] * (degree + 1))
            last = -1
        elif part != "+":
            found = FACTOR.fullmatch(part)
            if not found or not last < int(found[1]) <= degree:
                return k
            last = int(found[1])
            terms[-1][last] = int(found[2] or 1)
    if parts[-1] == "+":
        return len(parts)
    sizes = {(sum(term), sum(i * often for i, often in enumerate(term))) for term in terms}
    if len(sizes) > 1 or any(size > 12 for size, _ in sizes) or terms != sorted(terms) or len(set(map(tuple, terms))) < len(terms):
        return len(parts)
    return None


def some_values(seed, many):
    pick = picker(seed)
    sums = some_sums(seed, many // 4)
    found = [Form((0,)), Form((LET,) * 41), Form((-LET, 0)), Sum(1, {}), Sum(8, {}), Sum(1, {(0, 0): 7}), Sum(8, {(0,) * 8 + (12,): -LET}),
             ((0, 0), (0, 0)), ((LET, -LET), (0, 1)), (Form((0,)),) * 20, (CUBIC,), PrimeForm(13, (0,)), PrimeForm(101, (100,) * 13)]
    for k in range(many):
        kind = k % 4
        if kind == 0:
            found.append(some_form(pick, pick.randint(0, 40), pick.choice((1, 99, LET))))
        elif kind == 1:
            p = pick.choice(PRIMES)
            found.append(PrimeForm(p, tuple(pick.randint(0, p - 1) for _ in range(pick.randint(1, 13)))))
        elif kind == 2:
            found.append(some_table(pick, pick.choice((1, 9, LET))))
        else:
            found.append(tuple(some_form(pick, pick.randint(0, 5), pick.choice((1, 50))) for _ in range(pick.randint(1, 20))))
    return found + sums


class Both(Case, unittest.TestCase):
    def check(self, text):
        """The text is read, or refused, as the reckoning tells."""
        spot = spot_of(text)
        if spot is None:
            value = read_value(text)
            self.assertEqual(write_value(value), text)
            return value
        self.refuses(ParseError, {"spot": spot}, read_value, text)
        return None

    def test_values(self):
        for value in some_values(941, 120):
            text = write_value(value)
            self.assertIsNone(spot_of(text))
            again = read_value(text)
            self.assertEqual((again, again.__class__), (value, value.__class__))
            self.assertEqual(write_value(again), text)

    def test_texts(self):
        pick = picker(942)
        for _ in range(40):
            form, table = some_form(pick, pick.randint(0, 9)), some_change(pick)
            self.assertEqual(write_value(form), str(form))
            self.assertEqual(write_value(form), "form " + " ".join(map(str, form.entries)))
            self.assertEqual(write_value(table), "change {} {} {} {}".format(*table[0], *table[1]))
            prime = PrimeForm(17, form.entries)
            self.assertEqual(write_value(prime), "prime 17 " + " ".join(map(str, prime.entries)))
            forms = tuple(some_form(pick, pick.randint(0, 3)) for _ in range(pick.randint(1, 5)))
            self.assertEqual(write_value(forms), "forms " + " ; ".join(" ".join(map(str, one.entries)) for one in forms))
        for one in some_sums(943, 60):
            words = [" ".join([str(k)] + [f"c{i}" + (f"^{e}" if e > 1 else "") for i, e in enumerate(key) if e]) for key, k in sorted(one.terms.items())]
            self.assertEqual(write_value(one), f"sum {one.degree}" + (" " if words else "") + " + ".join(words))

    def test_changed_texts(self):
        """Each part left out, put in, exchanged, doubled or changed, at each place."""
        pick = picker(944)
        words = ["0", "1", "-1", "-0", "00", "01", "+", ";", "", "c0", "c1", "c1^2", "c1^1", "c9", "c01", "c1^02", "c1^13", "c", "c^2", "c1^", "x", "13",
                 "14", "form", "sum", "prime", "1.0", "+1", "--1", "- 1", "\n", "1\n", "c-1", "c1^2^2", "C1", "1" * 60, "1" * 61, "-" + "9" * 60, "-" + "9" * 61]
        seen = {"read": 0, "refused": 0}
        for value in some_values(945, 40):
            text = write_value(value)
            parts = text.split(" ")
            if len(parts) > 60:
                continue
            for _ in range(60):
                new, at, kind = list(parts), pick.randint(0, len(parts)), pick.randint(0, 4)
                if kind == 0 and at < len(parts):
                    del new[at]
                elif kind == 1:
                    new.insert(at, pick.choice(words))
                elif kind == 2:
                    new[at:at + 2] = new[at:at + 2][::-1]
                elif kind == 3:
                    new.insert(at, parts[min(at, len(parts) - 1)])
                elif at < len(parts):
                    new[at] = pick.choice(words)
                seen["refused" if self.check(" ".join(new)) is None else "read"] += 1
        self.assertGreater(min(seen.values()), 300)

    def test_cut_and_blank(self):
        for value in some_values(946, 12):
            text = write_value(value)
            if len(text) < 300:
                for at in range(len(text) + 1):
                    self.check(text[:at])
                    self.check(text[at:])
                    self.check(text[:at] + " " + text[at:])
                self.check(" " + text)
                self.check(text + " ")

    def test_told_spots(self):
        for text, spot in (("", 0), (" ", 0), ("form", 1), ("form ", 1), ("forms", 1), ("forms 1 ;", 3), ("forms ; 1", 1), ("forms 1 ; ; 1", 3), ("sum", 1),
                           ("sum 0", 1), ("sum 9", 1), ("sum 2 ", 2), ("sum 2 0", 2), ("sum 2 +", 2), ("sum 2 c0", 2), ("sum 2 1 +", 4), ("sum 2 1 2", 3),
                           ("sum 2 1 c1 c0", 4), ("sum 2 1 c1 c1", 4), ("sum 2 1 c3", 3), ("sum 1 1 c0^12 c1", 5), ("sum 1 1 c0^12 + 1 c1^12", 7),
                           ("sum 2 1 c0 + 1 c0", 7), ("sum 2 1 c1 + 1 c0", 7), ("sum 2 -4 c0 c2 + 1 c1^2", 8), ("prime", 1), ("prime 13", 2),
                           ("prime 12 1", 1), ("prime 103 1", 1), ("prime 013 1", 1), ("prime 13 -1", 2), ("prime 13 00", 2),
                           ("prime 13" + " 0" * 14, 15), ("change 1 2 3", 4), ("change 1 2 3 4 5", 5), ("change", 1), ("Form 1", 0), ("form 1 -0", 2),
                           ("form" + " 1" * 42, 42), ("forms" + " 1" * 42, 42), ("forms" + " 1 ;" * 19 + " 1 ; 1", 40), ("form 1\n", 1), ("1 form", 0)):
            self.assertEqual(spot_of(text), spot, text)
            self.refuses(ParseError, {"spot": spot}, read_value, text)
        for text in ("form" + " 1" * 41, "forms" + " 1" * 41, "forms" + " 1 ;" * 19 + " 1", "prime 101" + " 100" * 13, "sum 8", "sum 1 7", "sum 1 1 c0^12",
                     "form " + "9" * 60, "form -" + "9" * 60):
            self.assertIsNotNone(self.check(text))


class Lengths(Case, unittest.TestCase):
    def test_reading(self):
        rows = " ; ".join([" ".join(["1" * 24] * 41)] * 19)
        text = "forms " + rows + " ; "
        last = ["1" * 10] * 40
        text = text + " ".join(last)
        text = text + " " + "1" * (20000 - len(text) - 1)
        self.assertEqual(len(text), 20000)
        self.assertEqual(len(self.soon(2, read_value, text)), 20)
        self.assertEqual(write_value(read_value(text)), text)
        self.refuses(ParseError, {"spot": 0}, read_value, text + "1")
        self.refuses(ParseError, {"spot": 0}, read_value, "x" * 20001)
        self.refuses(ParseError, {"spot": 0}, read_value, " " * 20000)
        self.refuses(ParseError, {"spot": 1}, read_value, "form" + " " * 19996)
        self.soon(2, lambda: [self.refuses(ParseError, {"spot": 42}, read_value, "form" + " 1" * 9998) for _ in range(20)])

    def test_writing(self):
        forms = (Form((LET // 10 ** 36,) * 41),) * 19
        for k in (1, 2):
            last = 20000 - len(write_value(forms)) - 3 - 41 * 1 - 40 + 1
            entries = [1] * 40 + [10 ** min(last - 1 + k - 1, 59)]
            self.assertLess(last, 3000)
            rest = last - 1 + k - 1 - 59
            place = 0
            while rest > 0:
                more = min(rest, 59)
                entries[place] = 10 ** more
                place, rest = place + 1, rest - more
            value = forms + (Form(tuple(entries)),)
            length = len("forms " + " ; ".join(" ".join(map(str, form.entries)) for form in value))
            self.assertEqual(length, 20000 + k - 1)
            if k == 1:
                self.assertEqual(read_value(write_value(value)), value)
            else:
                self.refuses(TooMany, {"limit": 20000}, write_value, value)
        self.refuses(TooMany, {"limit": 20000}, write_value, (Form((LET,) * 41),) * 20)
        long = whole_form((LONG,))
        for value in (long, (QUAD, long), (long,) * 20, ((LONG, 0), (0, 1)), ((0, 1), (0, -LONG)), (Form((LET,) * 41),) * 19 + (long,),
                      Sum(2, {(0, 1, 0): LET}) * 2, whole_form((0, -LONG, 1)), ((10 ** 99, 1), (1, 1))):
            self.refuses(TooMany, {"limit": 60}, write_value, value)

    def test_long_sums(self):
        terms = {}
        for a in range(13):
            for b in range(13):
                for c in range(13):
                    for d in range(13):
                        key = (12 - a - b - c - d, a, b, c, d)
                        if key[0] >= 0 and a + 2 * b + 3 * c + 4 * d == 24:
                            terms[key] = LET
        one = Sum(4, terms)
        text = write_value(one)
        self.assertEqual(read_value(text), one)
        great = Sum(8, {(8 - a - b, a, b, 0, 0, 0, 0, 0, 0): 1 for a in range(9) for b in range(9) if a + b <= 8 and a + 2 * b == 8})
        self.assertEqual(read_value(write_value(great)), great)
        wide = {}
        for key in self.exponents(8, 12, 48)[:3000]:
            wide[key] = 1
        self.refuses(TooMany, {"limit": 20000}, write_value, Sum(8, wide))

    def exponents(self, degree, size, weight):
        if degree == 0:
            return [(size,)] if weight == 0 else []
        return [key + (often,) for often in range(min(size, weight // degree) + 1)
                for key in self.exponents(degree - 1, size - often, weight - often * degree)]


class Refusals(Case, unittest.TestCase):
    def test_writing(self):
        for value in NO_TUPLES[:-1] + ("form 1", (), [QUAD], (QUAD,) * 21, (QUAD, None), (QUAD, (1, 2)), (QUAD, PrimeForm(13, (1,))), ((1, 2), (3, True)),
                                       ((1, 2), (3, 4), (5, 6)), ((1, 2),), ((1, 2, 3), (4, 5, 6)), ((1, 2), [3, 4]), [(1, 2), (3, 4)], (1, 2, 3, 4),
                                       LET, ((1, 2), QUAD), (Sum(1, {}),), ((QUAD,),), {"form": 1}, ((), ())):
            self.refuses(InvalidOperation, {}, write_value, value)

    def test_reading(self):
        for value in NO_TUPLES + ((), LET, ("form 1",), ["form 1"], b"form 1", False):
            if not isinstance(value, str):
                self.refuses(ParseError, {"spot": 0}, read_value, value)


class Statements(Case, unittest.TestCase):
    def test_what_is_not_true(self):
        self.assertEqual((read_value("form 1 2"), read_value("form 1")), (Form((1, 2)), Form((1,))))
        self.assertNotEqual(read_value("change 1 2 3 4"), read_value("change 4 3 2 1"))
        self.assertNotEqual(write_value((QUAD,)), write_value(QUAD))


class Examples(Case, unittest.TestCase):
    def test_document(self):
        self.run_examples("""
>>> [write_value(CUBIC), write_value(PrimeForm(13, (1, 0, 5))), write_value(((1, 2), (0, -1))), write_value((QUAD, Form((0, 1))))]
['form 1 0 -3 1', 'prime 13 1 0 5', 'change 1 2 0 -1', 'forms 1 0 -2 ; 0 1']
>>> [write_value(Sum(2, {(1, 0, 1): -4, (0, 2, 0): 1})), write_value(Sum(2, {})), write_value(Sum(1, {(0, 0): 7})), write_value((QUAD,))]
['sum 2 1 c1^2 + -4 c0 c2', 'sum 2', 'sum 1 7', 'forms 1 0 -2']
>>> [read_value("form 0 0") == Form((0, 0)), read_value("sum 3 -2 c0 c1^2").terms, read_value("change 0 0 0 0"), read_value("forms 5 ; 0") == (Form((5,)), Form((0,)))]
[True, {(1, 2, 0, 0): -2}, ((0, 0), (0, 0)), True]
>>> read_value("form 1  2")
raises ParseError(2)
>>> read_value("sum 2 1 c1^2 + -4 c0 c1")
raises ParseError(8)
>>> read_value("prime 13 1 13")
raises ParseError(3)
""", NAMES)

    def test_places(self):
        self.assertEqual((module.MAX_TEXT, module.MAX_TOGETHER), (20000, 20))
        for call in (write_value, read_value):
            self.assertEqual(call.__module__, "sourceforms.text.strings")


if __name__ == "__main__":
    unittest.main()
