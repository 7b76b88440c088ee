"""Forms over prime fields, and the points and tables of these fields."""

from sourceforms.base.helper import is_change, is_pair, is_row, lead_of, need_number
from sourceforms.base.ratios import is_integer
from sourceforms.errors import InvalidForm, InvalidNumber, InvalidOperation, InvalidPoint, InvalidTable, TooMany
from sourceforms.form.forms import changed_row, need_form, product_row
from sourceforms.form.layings import laid_row
from sourceforms.prime.rows import modulo, pattern_of, plain_row

LEAST_PRIME = 13
MOST_PRIME = 101
MOST_DEGREE = 12

PRIMES = (13, 17, 19, 23, 29, 31, 37, 41, 43, 47, 53, 59, 61, 67, 71, 73, 79, 83, 89, 97, 101)


def need_prime(value):
    """Refuse what is no prime number from 13 to 101."""
    if not is_integer(value) or value not in PRIMES:
        raise InvalidNumber(value)


def is_prime_point(value, prime):
    """Whether the value is a prime point."""
    if not is_pair(value) or not all([0 <= part < prime for part in value]):
        return False
    lead = lead_of(value)
    return lead is not None and value[lead] == 1


def need_prime_point(value, prime):
    """Refuse what is no prime point."""
    if not is_prime_point(value, prime):
        raise InvalidPoint("a pair of integers below the prime is wanted, the first one but 0 being 1")


def determinant_of(table):
    """The determinant of a change."""
    return table[0][0] * table[1][1] - table[0][1] * table[1][0]


def need_prime_table(value, prime):
    """Refuse what is no change with a determinant that the prime does not divide."""
    if not is_change(value) or determinant_of(value) % prime == 0:
        raise InvalidTable("a change is wanted whose determinant the prime does not divide")


def value_at(entries, x, y, prime):
    """The value of a form for two integers, modulo a prime."""
    total, power = 0, 1
    for entry in entries:
        total = (total * x + entry * power) % prime
        power = power * y % prime
    return total


def changed_modulo(entries, table, prime):
    """The entries of a changed form, modulo a prime."""
    small = (modulo(table[0], prime), modulo(table[1], prime))
    return modulo(changed_row(entries, small), prime)


def quotient_by_line(entries, point, prime):
    """The entries of a form, divided by the line of a prime point, or None if it does not divide the form."""
    a, b = point
    if a == 0:
        return entries[:-1] if entries[-1] == 0 else None
    # The line is b x - y, so that each entry is b times one of the quotient, less the one ahead of that.
    found = []
    ahead = 0
    for entry in reversed(entries):
        found.append((b * ahead - entry) % prime)
        ahead = found[-1]
    return tuple(found[-2::-1]) if found[-1] == 0 else None


class PrimeForm:
    """A form over a prime field, of a degree from 0 to 12. It never changes."""

    def __init__(self, prime, entries):
        need_prime(prime)
        if not is_row(entries) or not 1 <= len(entries) <= MOST_DEGREE + 1:
            raise InvalidForm("a tuple of 1 to 13 integers is wanted")
        self._prime = prime
        self._entries = modulo(entries, prime)

    @classmethod
    def of_form(cls, form, prime):
        """A form, taken modulo a prime."""
        need_form(form)
        need_prime(prime)
        if form.degree > MOST_DEGREE:
            raise TooMany(MOST_DEGREE)
        return cls(prime, modulo(form.entries, prime))

    @property
    def prime(self):
        """The prime."""
        return self._prime

    @property
    def entries(self):
        """The tuple of the entries, from 0 to the prime less 1."""
        return self._entries

    @property
    def degree(self):
        """The degree, one less than the number of the entries."""
        return len(self._entries) - 1

    @property
    def is_zero(self):
        """Whether all entries are 0."""
        return lead_of(self._entries) is None

    @property
    def plain(self):
        """The multiple whose first entry other than 0 is 1, or the zero form itself."""
        return PrimeForm(self._prime, plain_row(self._entries, self._prime))

    def value(self, x, y):
        """The form for two integers."""
        if not is_integer(x):
            raise InvalidNumber(x)
        if not is_integer(y):
            raise InvalidNumber(y)
        return value_at(self._entries, x, y, self._prime)

    def changed(self, table):
        """The form with p x + q y put for x, and r x + s y for y."""
        need_prime_table(table, self._prime)
        return PrimeForm(self._prime, changed_modulo(self._entries, table, self._prime))

    def laid(self, other, times):
        """The laying (self, other) times."""
        need_like(self, other)
        need_number(times, 0, min(self.degree, other.degree))
        if self.degree + other.degree - 2 * times > MOST_DEGREE:
            raise TooMany(MOST_DEGREE)
        return PrimeForm(self._prime, modulo(laid_row(self._entries, other.entries, times), self._prime))

    def times_at(self, point):
        """How often a prime point is a root."""
        need_prime_point(point, self._prime)
        if self.is_zero:
            raise InvalidOperation("each point is a root of a zero form")
        often = 0
        left = quotient_by_line(self._entries, point, self._prime)
        while left is not None:
            often = often + 1
            left = quotient_by_line(left, point, self._prime)
        return often

    def roots(self):
        """All prime points at which the form is 0, ascending."""
        prime = self._prime
        return tuple([point for point in all_points(prime) if value_at(self._entries, point[0], point[1], prime) == 0])

    def pattern(self):
        """The pairs (degree, how often) of all factors, from the least to the greatest."""
        if self.is_zero:
            raise InvalidOperation("a form other than 0 is wanted")
        return pattern_of(self._entries, self._prime)

    def __mul__(self, other):
        if not isinstance(other, PrimeForm):
            return NotImplemented
        need_like(self, other)
        if self.degree + other.degree > MOST_DEGREE:
            raise TooMany(MOST_DEGREE)
        return PrimeForm(self._prime, modulo(product_row(self._entries, other.entries), self._prime))

    def __eq__(self, other):
        return isinstance(other, PrimeForm) and self._prime == other._prime and self._entries == other._entries

    def __str__(self):
        told = " ".join([str(entry) for entry in self._entries])
        return f"form {told} over {self._prime}"


def need_prime_form(value):
    """Refuse what is no prime form."""
    if not isinstance(value, PrimeForm):
        raise InvalidForm("an object of PrimeForm is wanted")


def need_like(one, value):
    """Refuse what is no prime form over the field of the first one."""
    if not isinstance(value, PrimeForm) or value.prime != one.prime:
        raise InvalidForm("a prime form with the same prime is wanted")


def all_points(prime):
    """All prime points, ascending."""
    need_prime(prime)
    return ((0, 1),) + tuple([(1, b) for b in range(prime)])


def led_row(table, point, prime):
    """The multiple of where a table leads a pair of integers whose first integer other than 0 is 1."""
    return plain_row(modulo([row[0] * point[0] + row[1] * point[1] for row in table], prime), prime)


def led_point(prime, table, point):
    """The prime point to which a prime table leads a prime point."""
    need_prime(prime)
    need_prime_table(table, prime)
    need_prime_point(point, prime)
    return led_row(table, point, prime)


def plain_change(table, prime):
    """The multiple of a change whose first entry other than 0 is 1."""
    row = plain_row(modulo(table[0] + table[1], prime), prime)
    return (row[:2], row[2:])


def plain_table(prime, table):
    """The plain multiple of a prime table."""
    need_prime(prime)
    need_prime_table(table, prime)
    return plain_change(table, prime)


def product_of_changes(one, other):
    """The product of two changes, as matrices."""
    return tuple([tuple([row[0] * other[0][j] + row[1] * other[1][j] for j in (0, 1)]) for row in one])


def undone_change(table):
    """A change whose product with this one is a multiple of ((1, 0), (0, 1))."""
    return ((table[1][1], -table[0][1]), (-table[1][0], table[0][0]))


def frame_of(three):
    """A change that leads (1, 0), (0, 1) and (1, 1) to three points: its columns are multiples of the first two."""
    (a, b), (c, d), (e, f) = three
    first, second = e * d - c * f, a * f - e * b
    return ((first * a, second * c), (first * b, second * d))


def need_three(value, prime):
    """Refuse what is no triple of different prime points."""
    if not isinstance(value, tuple) or len(value) != 3:
        raise InvalidPoint("three prime points are wanted")
    for point in value:
        need_prime_point(point, prime)
    if value[0] == value[1] or value[0] == value[2] or value[1] == value[2]:
        raise InvalidPoint("different prime points are wanted")


def table_by_three(prime, three, other):
    """The plain table that leads three prime points to three other ones."""
    need_prime(prime)
    need_three(three, prime)
    need_three(other, prime)
    return plain_change(product_of_changes(frame_of(other), undone_change(frame_of(three))), prime)
