"""What the tests share: example runs, refusals, and numbers that look arbitrary but never change."""

import random
import time
from fractions import Fraction
from math import gcd

from sourceforms.form.forms import Form

QUAD = Form((1, 0, -2))
CUBIC = Form((1, 0, -3, 1))
FOUR = Form((1, 0, 0, 1, 0))
SIX = Form((0, 1, 0, 0, 0, -1, 0))
BENT = Form((1, 2, 1, 0))

# The greatest integer that is let, and the least one above 0 that is not.
LET = 10 ** 60 - 1
LONG = 10 ** 60

NO_INTEGERS = (True, False, None, "1", "", (1,), (), [1], {1: 1}, LONG, -LONG, 10 ** 99, QUAD)
NO_TUPLES = (None, True, 7, "ab", [(1, 2)], [1, 2], {}, {(1, 2): 3}, QUAD)


NO_FORMS = NO_TUPLES[:-1] + ((), (1, 0, -2), "form 1 0 -2", (QUAD,), LET)
# Values that are no papers of any kind, whoever judges them.
NO_PAPERS = NO_TUPLES + (
    LONG, -1, 0, 1, "zero", "open", "end", (), (1,), (True,), (None,), ("zero", 0), ["zero"], ("Zero",), (("zero",),), ("",),
    ("sign",), ("root",), ("end", 0), ("power",), ("near",), ("entry",), ("entry", 0), ("entry", 0, 0), ("entry", True, 1),
    ("powers",), ("powers", 1), ("powers", None), ("rank",), ("rank", None), ("rank", True), ("killer",), ("killer", None),
    ("killer", (1, 0)), (QUAD,), (QUAD, "killer"), ("other",), ({},), ([],), ([], 1), ({}, 1, 2), (1, 2, 3), ("open", 1))


def picker(seed):
    """A source of numbers that gives the same ones in each run."""
    return random.Random(seed)


def some_form(pick, degree, most=9):
    return Form(tuple(pick.randint(-most, most) for _ in range(degree + 1)))


def some_table(pick, most=5):
    return tuple(tuple(pick.randint(-most, most) for _ in range(2)) for _ in range(2))


def some_change(pick, most=4):
    """A table with a determinant other than 0."""
    while True:
        table = some_table(pick, most)
        if determinant_of(table):
            return table


def determinant_of(table):
    return table[0][0] * table[1][1] - table[0][1] * table[1][0]


def point_of(a, b):
    """The point whose multiple a pair of integers is."""
    shared = gcd(a, b)
    if (a, b) < (0, 0):
        shared = -shared
    return (a // shared, b // shared)


def some_point(pick, most=6):
    while True:
        a, b = pick.randint(-most, most), pick.randint(-most, most)
        if a or b:
            return point_of(a, b)


def some_points(pick, many, most=6):
    """So many different points."""
    found = []
    while len(found) < many:
        point = some_point(pick, most)
        if point not in found:
            found.append(point)
    return found


def whole_form(row):
    """A form with entries of any length, made by sums and products of forms that are let."""
    total = Form((0,) * len(row))
    for place, entry in enumerate(row):
        part = Form(tuple(int(k == place) for k in range(len(row))))
        left, sign = abs(entry), 1 if entry >= 0 else -1
        scale = part
        while left:
            total = total + scale * (sign * (left % 10 ** 50))
            left //= 10 ** 50
            scale = scale * 10 ** 50
    return total


def product_of(forms):
    found = Form((1,))
    for form in forms:
        found = found * form
    return found


def matrix_product(one, other):
    return tuple(tuple(sum(a * b for a, b in zip(row, column)) for column in zip(*other)) for row in one)


def rank_of(rows):
    """The rank of rows of numbers, by fractions."""
    rows, rank = [[Fraction(part) for part in row] for row in rows], 0
    while rows:
        row = rows.pop()
        lead = next((k for k, part in enumerate(row) if part), None)
        if lead is not None:
            rank += 1
            rows = [[a - b * other[lead] / row[lead] for a, b in zip(other, row)] for other in rows]
    return rank


def kept_by(error):
    """What an error keeps, under whichever name."""
    return vars(error)


class Case:
    """Mixed into the test cases: refusals, and examples as they stand in the document."""

    def refuses(self, error, kept, call, *given, **named):
        """The call raises just this error, and the error keeps just this."""
        with self.assertRaises(error) as caught:
            call(*given, **named)
        self.assertIs(caught.exception.__class__, error)
        self.assertEqual(repr(kept_by(caught.exception)), repr(kept))

    def refuses_number(self, given, call, *rest, **named):
        from sourceforms.errors import InvalidNumber
        self.refuses(InvalidNumber, {"given": given}, call, *rest, **named)

    def soon(self, seconds, call, *given):
        """What a call returns; it must not take much longer than told, however busy the machine is."""
        begin = time.process_time()
        found = call(*given)
        self.assertLess(time.process_time() - begin, seconds, (call, given))
        return found

    def run_examples(self, text, names):
        """Run lines with `>>>`, each followed by nothing, by its value, or by `raises` and an error."""
        names = dict(names)
        lines = [line.strip() for line in text.strip().splitlines()]
        count = 0
        for at, line in enumerate(lines):
            if not line.startswith(">>> "):
                continue
            wanted = lines[at + 1] if at + 1 < len(lines) else ">>> "
            code = line[4:]
            if wanted.startswith(">>> "):
                exec(code, names)
            elif wanted.startswith("raises "):
                self.example_raises(code, wanted[7:], names)
                count += 1
            else:
                self.assertEqual(repr(eval(code, names)), repr(eval(wanted, names)), code)
                count += 1
        self.assertGreater(count, 0)

    def example_raises(self, code, wanted, names):
        error, _, told = wanted.partition("(")
        with self.assertRaises(names[error]) as caught:
            eval(code, names)
        self.assertIs(caught.exception.__class__, names[error], code)
        if told:
            self.assertEqual(list(kept_by(caught.exception).values()), [eval("(" + told, names)], code)
