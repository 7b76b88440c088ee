"""Sums: polynomials in the entries of a form, all of whose terms have one size and one weight."""

from sourceforms.base.helper import is_row, need_number, powers_of
from sourceforms.base.ratios import is_integer
from sourceforms.errors import InvalidForm, InvalidNumber, InvalidSum, TooMany
from sourceforms.form.forms import Form

MAX_SUMMED = 8
MAX_SIZE = 12
MAX_TERMS = 4000


def weight_of(exponents):
    """The sum of each exponent times its index."""
    return sum([index * often for index, often in enumerate(exponents)])


def first_of(terms):
    """The exponents of some term, since all have one size and one weight, or None if there is none."""
    for exponents in terms:
        return exponents
    return None


def are_exponents(value, degree):
    """Whether the value is a tuple of an integer of at least 0 for each entry, in all at most 12."""
    if not is_row(value) or len(value) != degree + 1:
        return False
    return all([often >= 0 for often in value]) and sum(value) <= MAX_SIZE


def are_terms(value, degree):
    """Whether the value is a dict that tells a sum for the degree."""
    if not isinstance(value, dict) or len(value) > MAX_TERMS:
        return False
    if not all([are_exponents(exponents, degree) for exponents in value]):
        return False
    if not all([is_integer(number) and number != 0 for number in value.values()]):
        return False
    first = first_of(value)
    if first is None:
        return True
    size, weight = sum(first), weight_of(first)
    return all([sum(exponents) == size and weight_of(exponents) == weight for exponents in value])


def tidy(terms):
    """The terms, ascending, without those whose integer is 0."""
    return {exponents: terms[exponents] for exponents in sorted(terms) if terms[exponents] != 0}


def moved(exponents, source, target):
    """The exponents with one factor taken off at an index and one put on at another one."""
    found = list(exponents)
    found[source] = found[source] - 1
    found[target] = found[target] + 1
    return tuple(found)


def moved_terms(terms, factors, step):
    """The terms with factors[i] times the entry i + step put for one factor, the entry i, each in turn."""
    found = {}
    for exponents in terms:
        for index, often in enumerate(exponents):
            number = terms[exponents] * often * factors[index]
            if number != 0:
                key = moved(exponents, index, index + step)
                found[key] = found.get(key, 0) + number
    return found


def added_terms(one, other, factor):
    """The terms of the first sum and the factor times the second one."""
    found = {exponents: one[exponents] for exponents in one}
    for exponents in other:
        found[exponents] = found.get(exponents, 0) + factor * other[exponents]
    return found


def packed(exponents):
    """The exponents as one integer, four bits for each, so that products add these integers."""
    found = 0
    for often in exponents:
        found = found * 16 + often
    return found


def unpacked(number, many):
    """The exponents that are packed into an integer."""
    return tuple([(number >> (4 * place)) & 15 for place in range(many - 1, -1, -1)])


def product_terms(one, other):
    """The terms of a product of two sums, whose sizes add up to at most 12."""
    first = first_of(one)
    many = 0 if first is None else len(first)
    factors = [(packed(exponents), other[exponents]) for exponents in other]
    found = {}
    for exponents in one:
        place, number = packed(exponents), one[exponents]
        for key, factor in factors:
            found[place + key] = found.get(place + key, 0) + number * factor
    return {unpacked(place, many): found[place] for place in found}


def made_sum(degree, terms):
    """A sum with integers of any length, which `Sum` itself would refuse from its callers."""
    made = Sum(degree, {})
    made._terms = tidy(terms)
    return made


class Sum:
    """A sum for a degree from 1 to 8. It never changes."""

    def __init__(self, degree, terms):
        need_number(degree, 1, MAX_SUMMED)
        if not are_terms(terms, degree):
            raise InvalidSum("a dict from exponents of one size and weight to integers other than 0 is wanted")
        self._degree = degree
        self._terms = tidy(terms)

    @classmethod
    def entry(cls, degree, index):
        """The sum that is the entry with the index alone."""
        need_number(degree, 1, MAX_SUMMED)
        need_number(index, 0, degree)
        return made_sum(degree, {tuple([1 if place == index else 0 for place in range(degree + 1)]): 1})

    @property
    def degree(self):
        """The degree of the forms whose entries the sum takes."""
        return self._degree

    @property
    def terms(self):
        """The dict from the exponents of the terms to their integers."""
        return {exponents: self._terms[exponents] for exponents in self._terms}

    @property
    def size(self):
        """How many entries each term multiplies, None for the zero sum."""
        first = first_of(self._terms)
        return None if first is None else sum(first)

    @property
    def weight(self):
        """The sum of the indices of the entries of each term, None for the zero sum."""
        first = first_of(self._terms)
        return None if first is None else weight_of(first)

    @property
    def order(self):
        """The degree times the size, less twice the weight, None for the zero sum."""
        first = first_of(self._terms)
        return None if first is None else self._degree * sum(first) - 2 * weight_of(first)

    @property
    def is_zero(self):
        """Whether there is no term."""
        return len(self._terms) == 0

    def lowered(self):
        """The sum with (n - i + 1) c_(i - 1) put for one factor c_i, each in turn."""
        factors = [0] + [self._degree - index for index in range(self._degree)]
        return made_sum(self._degree, moved_terms(self._terms, factors, -1))

    def raised(self):
        """The sum with (i + 1) c_(i + 1) put for one factor c_i, each in turn."""
        factors = [index + 1 for index in range(self._degree)] + [0]
        return made_sum(self._degree, moved_terms(self._terms, factors, 1))

    def at(self, form):
        """The value at the entries of a form."""
        if not isinstance(form, Form) or form.degree != self._degree:
            raise InvalidForm("a form of the degree of the sum is wanted")
        powers = [powers_of(number, MAX_SIZE) for number in form.entries]
        total = 0
        for exponents, number in self._terms.items():
            worth = number
            for index, often in enumerate(exponents):
                worth = worth * powers[index][often]
            total = total + worth
        return total

    def __add__(self, other):
        if not isinstance(other, Sum):
            return NotImplemented
        need_like(self, other)
        return made_sum(self._degree, added_terms(self._terms, other.terms, 1))

    def __sub__(self, other):
        if not isinstance(other, Sum):
            return NotImplemented
        need_like(self, other)
        return made_sum(self._degree, added_terms(self._terms, other.terms, -1))

    def __neg__(self):
        return made_sum(self._degree, added_terms({}, self._terms, -1))

    def __mul__(self, other):
        if isinstance(other, Sum):
            need_product(self, other)
            return made_sum(self._degree, product_terms(self._terms, other.terms))
        if not isinstance(other, int) or isinstance(other, bool):
            return NotImplemented
        if not is_integer(other):
            raise InvalidNumber(other)
        return made_sum(self._degree, added_terms({}, self._terms, other))

    def __eq__(self, other):
        return isinstance(other, Sum) and self._degree == other._degree and self._terms == other._terms

    def __len__(self):
        return len(self._terms)

    def __iter__(self):
        return iter(self._terms.items())

    def __str__(self):
        if len(self._terms) == 0:
            return f"zero sum of degree {self._degree}"
        told = f"size {self.size} and weight {self.weight} with {len(self._terms)} terms"
        return f"sum of degree {self._degree}, {told}"


def need_like(one, other):
    """Refuse two sums that cannot be added."""
    if one.degree != other.degree:
        raise InvalidSum("sums for one degree are wanted")
    if one.is_zero or other.is_zero:
        return
    if one.size != other.size or one.weight != other.weight:
        raise InvalidSum("sums of one size and one weight are wanted")


def need_product(one, other):
    """Refuse two sums that cannot be multiplied."""
    if one.degree != other.degree:
        raise InvalidSum("sums for one degree are wanted")
    if one.is_zero or other.is_zero:
        return
    if one.size + other.size > MAX_SIZE:
        raise TooMany(MAX_SIZE)
