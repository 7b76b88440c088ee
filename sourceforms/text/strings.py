"""Texts of forms, prime forms, sums, changes and tuples of forms, written and read."""

from sourceforms.base.helper import is_whole_change
from sourceforms.base.ratios import TOO_LONG
from sourceforms.errors import InvalidOperation, ParseError, TooMany
from sourceforms.form.forms import Form
from sourceforms.prime.fields import PrimeForm
from sourceforms.sums.sums import Sum
from sourceforms.text.reading import MOST_DIGITS, change_of, form_of, forms_of, prime_form_of, sum_of

MAX_TEXT = 20000
MAX_TOGETHER = 20


def are_forms(value):
    """Whether the value is a tuple of 1 to 20 forms."""
    if not isinstance(value, tuple) or not 1 <= len(value) <= MAX_TOGETHER:
        return False
    return all([isinstance(form, Form) for form in value])


def numbers_in(value):
    """All integers of a value that has a text, but for those that are never long, in a list."""
    if isinstance(value, Form):
        return list(value.entries)
    if isinstance(value, Sum):
        return list(value.terms.values())
    if isinstance(value, PrimeForm):
        return []
    return [number for row in value for number in row]


def words_of(row):
    """The integer parts of a row."""
    return [str(number) for number in row]


def term_words(exponents, number):
    """The parts of a term of a sum."""
    found = [str(number)]
    for index, often in enumerate(exponents):
        if often == 1:
            found.append(f"c{index}")
        if often > 1:
            found.append(f"c{index}^{often}")
    return found


def sum_words(value):
    """The parts of a sum."""
    found = ["sum", str(value.degree)]
    for place, (exponents, number) in enumerate(list(value)):
        if place > 0:
            found.append("+")
        found.extend(term_words(exponents, number))
    return found


def forms_words(value):
    """The parts of a tuple of forms."""
    found = ["forms"]
    for place, form in enumerate(value):
        if place > 0:
            found.append(";")
        found.extend(words_of(form.entries))
    return found


def parts_of(value):
    """The parts of the text of a value that has one."""
    if isinstance(value, Form):
        return ["form"] + words_of(value.entries)
    if isinstance(value, PrimeForm):
        return ["prime", str(value.prime)] + words_of(value.entries)
    if isinstance(value, Sum):
        return sum_words(value)
    if is_whole_change(value):
        return ["change"] + words_of(value[0] + value[1])
    return forms_words(value)


def has_text(value):
    """Whether the value has a text, if its integers are not too long."""
    if isinstance(value, Form) or isinstance(value, PrimeForm) or isinstance(value, Sum):
        return True
    return is_whole_change(value) or are_forms(value)


def write_value(value):
    """The text of a value."""
    if not has_text(value):
        raise InvalidOperation("a form, a prime form, a sum, a change or a tuple of forms is wanted")
    if any([abs(number) >= TOO_LONG for number in numbers_in(value)]):
        raise TooMany(MOST_DIGITS)
    text = " ".join(parts_of(value))
    if len(text) > MAX_TEXT:
        raise TooMany(MAX_TEXT)
    return text


def read_value(text):
    """The value with a text."""
    if not isinstance(text, str) or len(text) > MAX_TEXT:
        raise ParseError(0)
    parts = text.split(" ")
    word = parts[0]
    if word == "form":
        return form_of(parts)
    if word == "prime":
        return prime_form_of(parts)
    if word == "sum":
        return sum_of(parts)
    if word == "change":
        return change_of(parts)
    if word == "forms":
        return forms_of(parts, MAX_TOGETHER)
    raise ParseError(0)
