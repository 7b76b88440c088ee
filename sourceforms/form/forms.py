"""Forms in two letters: the entries c0 to cn stand for the sum of c_i x ** (n - i) y ** i."""

from math import comb, perm

from sourceforms.base.helper import content_of, is_change, is_pair, is_point, is_row
from sourceforms.base.helper import lead_of, need_number, powers_of, primitive_row
from sourceforms.base.ratios import is_integer, reduced
from sourceforms.errors import InvalidForm, InvalidNumber, InvalidOperation, InvalidPoint
from sourceforms.errors import InvalidTable, TooMany

MAX_DEGREE = 40
MAX_POINTS = 40


def need_point(value):
    """Refuse what is no point."""
    if not is_point(value):
        raise InvalidPoint("a pair without a common divisor is wanted, its first integer but 0 above 0")


def need_form(value):
    """Refuse what is no form."""
    if not isinstance(value, Form):
        raise InvalidForm("an object of Form is wanted")


def product_row(one, other):
    """The entries of the product of two rows of entries."""
    # A list made with the sign `*` would not surely be a new one, beside the own `*` of classes.
    found = [0 for _ in range(len(one) + len(other) - 1)]
    for i, first in enumerate(one):
        for j, second in enumerate(other):
            found[i + j] = found[i + j] + first * second
    return tuple(found)


def sum_row(one, other):
    """The sums of two rows of one length, entry by entry."""
    return tuple([first + second for first, second in zip(one, other)])


def multiple_row(row, number):
    """Each entry, multiplied by an integer."""
    return tuple([entry * number for entry in row])


def derived_row(row, one, other):
    """The entries of a form, derived so many times by x, and then by y; the degree is at least as many."""
    degree = len(row) - 1
    return tuple([row[i] * perm(degree - i, one) * perm(i, other) for i in range(other, degree - one + 1)])


def changed_row(row, table):
    """The entries of a changed form."""
    first, second = table
    total, power = (row[0],), (1,)
    for entry in row[1:]:
        power = product_row(power, second)
        total = sum_row(product_row(total, first), multiple_row(power, entry))
    return total


def power_row(first, second, degree):
    """The entries of (first x + second y) ** degree."""
    left = powers_of(first, degree)
    right = powers_of(second, degree)
    return tuple([comb(degree, i) * left[degree - i] * right[i] for i in range(degree + 1)])


def row_value(row, x, y):
    """The value of a form for two integers."""
    total, power = 0, 1
    for entry in row:
        total = total * x + entry * power
        power = power * y
    return total


def quotient_row(row, divisor):
    """The entries whose product with the divisor, which is not 0, is the row, or None."""
    many = len(row) - len(divisor) + 1
    if many < 1:
        return None
    lead = lead_of(divisor)
    left = list(row)
    found = []
    for k in range(many):
        if left[k + lead] % divisor[lead] != 0:
            return None
        number = left[k + lead] // divisor[lead]
        found.append(number)
        for j, entry in enumerate(divisor):
            left[k + j] = left[k + j] - number * entry
    if lead_of(left) is not None:
        return None
    return tuple(found)


def made_form(entries):
    """A form with entries of any length, which `Form` itself would refuse from its callers."""
    made = Form((0,))
    made._entries = entries
    return made


def line_of(point):
    """The line b x - a y of a point (a, b)."""
    need_point(point)
    return made_form((point[1], -point[0]))


class Form:
    """A form of a degree from 0 to 40. It never changes."""

    def __init__(self, entries):
        if not is_row(entries) or not 1 <= len(entries) <= MAX_DEGREE + 1:
            raise InvalidForm("a tuple of 1 to 41 integers is wanted")
        self._entries = entries

    @classmethod
    def of_points(cls, points):
        """The product of the lines of the points."""
        if not isinstance(points, tuple) or len(points) > MAX_POINTS:
            raise InvalidPoint("a tuple of at most 40 points is wanted")
        entries = (1,)
        for point in points:
            need_point(point)
            entries = product_row(entries, (point[1], -point[0]))
        return made_form(entries)

    @classmethod
    def power(cls, pair, degree):
        """(a x + b y) ** degree for a pair (a, b) of integers."""
        if not is_pair(pair):
            raise InvalidPoint("a pair of integers is wanted")
        need_number(degree, 0, MAX_DEGREE)
        return made_form(power_row(pair[0], pair[1], degree))

    @property
    def entries(self):
        """The tuple of the entries."""
        return self._entries

    @property
    def degree(self):
        """The degree, one less than the number of the entries."""
        return len(self._entries) - 1

    @property
    def is_zero(self):
        """Whether all entries are 0."""
        return lead_of(self._entries) is None

    @property
    def content(self):
        """The greatest common divisor of the entries, 0 for a zero form."""
        return content_of(self._entries)

    @property
    def primitive(self):
        """The form, divided by its content, the first entry other than 0 being above 0."""
        return made_form(primitive_row(self._entries))

    def value(self, x, y):
        """The form for two integers."""
        if not is_integer(x):
            raise InvalidNumber(x)
        if not is_integer(y):
            raise InvalidNumber(y)
        return row_value(self._entries, x, y)

    def changed(self, table):
        """The form with p x + q y put for x, and r x + s y for y."""
        if not is_change(table):
            raise InvalidTable("a pair of pairs of integers is wanted")
        return made_form(changed_row(self._entries, table))

    def derived(self, one, other):
        """The form, derived `one` times by x and `other` times by y."""
        need_number(one, 0, self.degree)
        need_number(other, 0, self.degree - one)
        return made_form(derived_row(self._entries, one, other))

    def times_at(self, point):
        """How often the point is a root."""
        need_point(point)
        if self.is_zero:
            raise InvalidOperation("each point is a root of a zero form")
        line = (point[1], -point[0])
        often = 0
        left = quotient_row(self._entries, line)
        while left is not None:
            often = often + 1
            left = quotient_row(left, line)
        return often

    def quotient(self, other):
        """The form with integers whose product with the other one is this one, or None."""
        need_form(other)
        if other.is_zero:
            raise InvalidOperation("nothing is divided by a zero form")
        entries = quotient_row(self._entries, other.entries)
        if entries is None:
            return None
        return made_form(entries)

    def __add__(self, other):
        if not isinstance(other, Form):
            return NotImplemented
        need_one_degree(self, other)
        return made_form(sum_row(self._entries, other.entries))

    def __sub__(self, other):
        if not isinstance(other, Form):
            return NotImplemented
        need_one_degree(self, other)
        return made_form(sum_row(self._entries, multiple_row(other.entries, -1)))

    def __neg__(self):
        return made_form(multiple_row(self._entries, -1))

    def __mul__(self, other):
        if isinstance(other, Form):
            if self.degree + other.degree > MAX_DEGREE:
                raise TooMany(MAX_DEGREE)
            return made_form(product_row(self._entries, other.entries))
        if not isinstance(other, int) or isinstance(other, bool):
            return NotImplemented
        if not is_integer(other):
            raise InvalidNumber(other)
        return made_form(multiple_row(self._entries, other))

    def __eq__(self, other):
        return isinstance(other, Form) and self._entries == other._entries

    def __len__(self):
        return len(self._entries)

    def __iter__(self):
        return iter(self._entries)

    def __str__(self):
        told = " ".join([str(entry) for entry in self._entries])
        return f"form {told}"


def need_one_degree(one, other):
    """Refuse two forms of different degrees."""
    if one.degree != other.degree:
        raise InvalidOperation("forms of one degree are wanted")


def factor_between(one, other):
    """The ratio other than 0 by which `one` must be multiplied to be `other`, or None."""
    need_form(one)
    need_form(other)
    if one.degree != other.degree:
        return None
    lead = lead_of(one.entries)
    if lead != lead_of(other.entries):
        return None
    if lead is None:
        return (1, 1)
    top, bottom = other.entries[lead], one.entries[lead]
    if any([first * top != second * bottom for first, second in zip(one.entries, other.entries)]):
        return None
    return reduced(top, bottom)
