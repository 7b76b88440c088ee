"""What the tests share: example runs, refusals, and numbers that look arbitrary but never change."""

import random
from fractions import Fraction

from sourceforms.form.forms import Form

QUAD = Form((1, 0, -2))
CUBIC = Form((1, 0, -3, 1))
FOUR = Form((1, 0, 0, 1, 0))
SIX = Form((0, 1, 0, 0, 0, -1, 0))
BENT = Form((1, 2, 1, 0))

# The greatest integer that is let, and the least one above 0 that is not.
LET = 10 ** 60 - 1
LONG = 10 ** 60

NO_INTEGERS = (True, False, None, "1", "", (1,), (), [1], {1: 1}, LONG, -LONG, 10 ** 99, QUAD)
NO_TUPLES = (None, True, 7, "ab", [(1, 2)], [1, 2], {}, {(1, 2): 3}, QUAD)


def picker(seed):
    """A source of numbers that gives the same ones in each run."""
    return random.Random(seed)


def some_form(pick, degree, most=9):
    return Form(tuple(pick.randint(-most, most) for _ in range(degree + 1)))


def some_table(pick, most=5):
    return tuple(tuple(pick.randint(-most, most) for _ in range(2)) for _ in range(2))


def matrix_product(one, other):
    return tuple(tuple(sum(a * b for a, b in zip(row, column)) for column in zip(*other)) for row in one)


def rank_of(rows):
    """The rank of rows of numbers, by fractions."""
    rows, rank = [[Fraction(part) for part in row] for row in rows], 0
    while rows:
        row = rows.pop()
        lead = next((k for k, part in enumerate(row) if part), None)
        if lead is not None:
            rank += 1
            rows = [[a - b * other[lead] / row[lead] for a, b in zip(other, row)] for other in rows]
    return rank


def kept_by(error):
    """What an error keeps, under whichever name."""
    return vars(error)


class Case:
    """Mixed into the test cases: refusals, and examples as they stand in the document."""

    def refuses(self, error, kept, call, *given, **named):
        """The call raises just this error, and the error keeps just this."""
        with self.assertRaises(error) as caught:
            call(*given, **named)
        self.assertIs(caught.exception.__class__, error)
        self.assertEqual(repr(kept_by(caught.exception)), repr(kept))

    def refuses_number(self, given, call, *rest, **named):
        from sourceforms.errors import InvalidNumber
        self.refuses(InvalidNumber, {"given": given}, call, *rest, **named)

    def run_examples(self, text, names):
        """Run lines with `>>>`, each followed by nothing, by its value, or by `raises` and an error."""
        names = dict(names)
        lines = [line.strip() for line in text.strip().splitlines()]
        count = 0
        for at, line in enumerate(lines):
            if not line.startswith(">>> "):
                continue
            wanted = lines[at + 1] if at + 1 < len(lines) else ">>> "
            code = line[4:]
            if wanted.startswith(">>> "):
                exec(code, names)
            elif wanted.startswith("raises "):
                self.example_raises(code, wanted[7:], names)
                count += 1
            else:
                self.assertEqual(repr(eval(code, names)), repr(eval(wanted, names)), code)
                count += 1
        self.assertGreater(count, 0)

    def example_raises(self, code, wanted, names):
        error, _, told = wanted.partition("(")
        with self.assertRaises(names[error]) as caught:
            eval(code, names)
        self.assertIs(caught.exception.__class__, names[error], code)
        if told:
            self.assertEqual(list(kept_by(caught.exception).values()), [eval("(" + told, names)], code)
