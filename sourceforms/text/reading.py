"""Parts of texts, read from the left; the first one that must not stand where it stands is refused."""

from sourceforms.errors import ParseError
from sourceforms.form.forms import MAX_DEGREE, Form
from sourceforms.prime.fields import MOST_DEGREE, PRIMES, PrimeForm
from sourceforms.sums.sums import MAX_SIZE, MAX_SUMMED, Sum, weight_of

MOST_DIGITS = 60

DIGITS = "0123456789"


def number_of(part):
    """The integer of an integer part, or None for a part that is none."""
    digits = part[1:] if part.startswith("-") else part
    if not 1 <= len(digits) <= MOST_DIGITS or not all([sign in DIGITS for sign in digits]):
        return None
    # Only 0 itself begins with 0, and it has no sign.
    if digits[0] == "0" and part != "0":
        return None
    return int(part)


def number_within(part, low, high):
    """The integer of an integer part from low to high, or None."""
    number = number_of(part)
    if number is None or not low <= number <= high:
        return None
    return number


def numbers_from(parts, begin, most):
    """The integers of all parts from an index on, at most so many of them, as a tuple."""
    found = []
    for spot in range(begin, len(parts)):
        number = number_of(parts[spot])
        if number is None or len(found) == most:
            raise ParseError(spot)
        found.append(number)
    return tuple(found)


def need_more(parts, enough):
    """Refuse a text in which parts are wanting."""
    if not enough:
        raise ParseError(len(parts))


def form_of(parts):
    """The form of the parts of a text."""
    entries = numbers_from(parts, 1, MAX_DEGREE + 1)
    need_more(parts, len(entries) > 0)
    return Form(entries)


def prime_form_of(parts):
    """The prime form of the parts of a text."""
    need_more(parts, len(parts) > 1)
    prime = number_of(parts[1])
    if prime is None or prime not in PRIMES:
        raise ParseError(1)
    entries = []
    for spot in range(2, len(parts)):
        number = number_within(parts[spot], 0, prime - 1)
        if number is None or len(entries) > MOST_DEGREE:
            raise ParseError(spot)
        entries.append(number)
    need_more(parts, len(entries) > 0)
    return PrimeForm(prime, tuple(entries))


def change_of(parts):
    """The change of the parts of a text."""
    numbers = numbers_from(parts, 1, 4)
    need_more(parts, len(numbers) == 4)
    return (numbers[:2], numbers[2:])


def forms_of(parts, most):
    """The tuple of forms, at most so many of them, of the parts of a text."""
    found = []
    entries = []
    for spot in range(1, len(parts)):
        part = parts[spot]
        if part == ";":
            if len(entries) == 0 or len(found) == most - 1:
                raise ParseError(spot)
            found.append(Form(tuple(entries)))
            entries = []
        else:
            number = number_of(part)
            if number is None or len(entries) > MAX_DEGREE:
                raise ParseError(spot)
            entries.append(number)
    need_more(parts, len(entries) > 0)
    return tuple(found + [Form(tuple(entries))])


def factor_of(part, least, degree):
    """The pair (index, exponent) of a part with c whose index goes from the least one to the degree, or None."""
    if not part.startswith("c"):
        return None
    told, sign, power = part[1:].partition("^")
    index = number_within(told, least, degree)
    exponent = number_within(power, 2, MAX_SIZE) if sign == "^" else 1
    if index is None or exponent is None:
        return None
    return (index, exponent)


def terms_of_parts(parts, degree):
    """The list of the pairs (exponents, integer) of the terms of a sum, in the order of the text."""
    found = []
    # The least index that can follow in this term, or None where an integer must stand.
    least = None
    for spot in range(2, len(parts)):
        part = parts[spot]
        if least is None:
            number = number_of(part)
            if number is None or number == 0:
                raise ParseError(spot)
            exponents = [0 for _ in range(degree + 1)]
            least = 0
        elif part == "+":
            found.append((tuple(exponents), number))
            least = None
        else:
            factor = factor_of(part, least, degree)
            if factor is None:
                raise ParseError(spot)
            exponents[factor[0]] = factor[1]
            least = factor[0] + 1
    need_more(parts, least is not None)
    return found + [(tuple(exponents), number)]


def do_go_together(terms):
    """Whether the exponents of terms ascend, and all have one size, at most 12, and one weight."""
    keys = [exponents for exponents, _ in terms]
    size, weight = sum(keys[0]), weight_of(keys[0])
    if size > MAX_SIZE or not all([sum(key) == size and weight_of(key) == weight for key in keys]):
        return False
    return all([keys[place - 1] < keys[place] for place in range(1, len(keys))])


def sum_of(parts):
    """The sum of the parts of a text."""
    need_more(parts, len(parts) > 1)
    degree = number_within(parts[1], 1, MAX_SUMMED)
    if degree is None:
        raise ParseError(1)
    if len(parts) == 2:
        return Sum(degree, {})
    terms = terms_of_parts(parts, degree)
    need_more(parts, do_go_together(terms))
    return Sum(degree, {exponents: number for exponents, number in terms})
