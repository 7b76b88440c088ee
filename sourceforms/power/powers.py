"""Forms as sums of powers of points, each multiplied by a ratio."""

from math import gcd, lcm, perm

from sourceforms.base.helper import content_of, is_point, is_same, is_whole, is_whole_point, is_whole_ratio, need_number
from sourceforms.base.ratios import is_ratio, reduced
from sourceforms.errors import InvalidOperation, InvalidPoint, Refused
from sourceforms.form.forms import MAX_DEGREE, Form, made_form, multiple_row, need_form, power_row, product_row
from sourceforms.form.forms import quotient_row, row_value, sum_row
from sourceforms.power.killers import does_kill_row, killed_row, killer_rows, least_degree, plain_levels, rank_at
from sourceforms.power.lines import has_root_twice, split_points

MOST_POWERS = 50

# What `monomial_powers` takes.
MOST_EXPONENT = 20


def least_killer(row):
    """The pair of the least degree of a killer of a form other than 0, and the first such killer."""
    levels = plain_levels(row)
    least = least_degree(levels)
    return (least, killer_rows(levels, least)[0])


def least_powers(form):
    """The fewest powers over the closed field."""
    need_form(form)
    if form.is_zero:
        return 0
    least, first = least_killer(form.entries)
    other = form.degree + 2 - least
    return other if least < other and has_root_twice(first) else least


def numbers_of(row, points):
    """The ratios by which the powers of different points are multiplied to make a form, in a list, or None."""
    whole = (1,)
    for point in points:
        whole = product_row(whole, (point[1], -point[0]))
    if not does_kill_row(whole, row):
        return None
    # The lines of all other points leave the power of one point alone, but for a number.
    left = len(row) - len(points)
    factor = perm(len(row) - 1, len(points) - 1) if len(points) > 0 else 1
    found = []
    for a, b in points:
        part = quotient_row(whole, (b, -a))
        place = 0 if a != 0 else left
        entry = power_row(a, b, left)[place]
        found.append(reduced(killed_row(part, row)[place], factor * row_value(part, a, b) * entry))
    return found


def are_points(value, most):
    """Whether the value is a tuple of at most so many different points."""
    if not isinstance(value, tuple) or len(value) > most:
        return False
    return all([is_point(point) for point in value]) and len(set(value)) == len(value)


def numbers_at(form, points):
    """The ratios by which the powers of some points are multiplied to add up to the form, or None."""
    need_form(form)
    if not are_points(points, form.degree + 1):
        raise InvalidPoint("a tuple of different points is wanted, at most one more than the degree")
    found = numbers_of(form.entries, points)
    return None if found is None else tuple(found)


def summed(degree, terms):
    """The pair (row, bottom) of a sum of powers, each multiplied by a ratio, in lowest terms."""
    whole = 1
    for ratio, _ in terms:
        whole = lcm(whole, ratio[1])
    total = (0,) * (degree + 1)
    for ratio, point in terms:
        power = power_row(point[0], point[1], degree)
        total = sum_row(total, multiple_row(power, ratio[0] * (whole // ratio[1])))
    shared = gcd(content_of(total), whole)
    return (tuple([entry // shared for entry in total]), whole // shared)


def is_term(value):
    """Whether the value is a pair of a ratio and a point."""
    return isinstance(value, tuple) and len(value) == 2 and is_ratio(value[0]) and is_point(value[1])


def powers_sum(degree, terms):
    """The form of a degree that is the sum of some powers, each multiplied by a ratio."""
    need_number(degree, 0, MAX_DEGREE)
    if not isinstance(terms, tuple) or len(terms) > MOST_POWERS or not all([is_term(term) for term in terms]):
        raise InvalidOperation("a tuple of at most 50 pairs of a ratio and a point is wanted")
    row, bottom = summed(degree, terms)
    if bottom != 1:
        raise Refused(("bottom", bottom))
    return made_form(row)


def some_points(many):
    """So many different points with small integers, in a list."""
    found = [(0, 1), (1, 0)]
    for step in range(1, many):
        found.append((1, step))
        found.append((1, -step))
    return found[:many]


def terms_at(row, points):
    """The terms of a form that is a sum of powers of these points, without those with the ratio 0."""
    return tuple([(ratio, point) for ratio, point in zip(numbers_of(row, points), points) if ratio[0] != 0])


def powers_paper(form, many):
    """A paper on whether a form is a sum of so many powers over the fractions."""
    need_form(form)
    need_number(many, 0, MOST_POWERS)
    row, degree = form.entries, form.degree
    if form.is_zero:
        return ("powers", ())
    least, first = least_killer(row)
    if many < least:
        return ("rank", degree // 2)
    points = split_points(first)
    if points is not None:
        return ("powers", terms_at(row, points))
    if many > degree:
        return ("powers", terms_at(row, some_points(degree + 1)))
    if many < degree + 2 - least:
        return ("killer", made_form(first))
    return ("open",)


def is_long_term(value):
    """Whether the value is a pair of a ratio other than 0 and a point, with integers of any length."""
    if not isinstance(value, tuple) or len(value) != 2:
        return False
    return is_whole_ratio(value[0]) and value[0][0] != 0 and is_whole_point(value[1])


def do_add_up(row, terms):
    """Whether powers of different points, multiplied by ratios, add up to a form."""
    degree = len(row) - 1
    # As many points as the form has entries tell their ratios; all others are taken off first.
    known = terms[:degree + 1]
    more, bottom = summed(degree, terms[degree + 1:])
    left = sum_row(multiple_row(row, bottom), multiple_row(more, -1))
    numbers = numbers_of(left, [point for _, point in known])
    if numbers is None:
        return False
    wanted = [reduced(bottom * ratio[0], ratio[1]) for ratio, _ in known]
    return numbers == wanted


def are_powers(row, many, terms):
    """Whether the value is a tuple of at most so many terms with different points that add up to a form."""
    if not isinstance(terms, tuple) or len(terms) > many or not all([is_long_term(term) for term in terms]):
        return False
    return len(set([point for _, point in terms])) == len(terms) and do_add_up(row, terms)


def is_rank(row, many, at):
    """Whether the value is a degree whose level table has a rank above a number."""
    if not is_whole(at) or not 0 <= at < len(row):
        return False
    return rank_at(least_degree(plain_levels(row)), len(row) - 1, at) > many


def is_no_split_killer(form, many, value):
    """Whether the value is a killer of the least degree that shows that a form is no sum of so many powers."""
    if not isinstance(value, Form) or value.is_zero or not value.degree <= many < form.degree + 2 - value.degree:
        return False
    if not does_kill_row(value.entries, form.entries):
        return False
    return value.degree == least_degree(plain_levels(form.entries)) and split_points(value.entries) is None


def is_open(form, many):
    """Whether nothing is told about a form and a number of powers."""
    if form.is_zero or many > form.degree:
        return False
    least, first = least_killer(form.entries)
    return many >= form.degree + 2 - least and split_points(first) is None


def is_powers_paper(form, many, value):
    """Whether the value is a right paper on a form and a number of powers."""
    need_form(form)
    need_number(many, 0, MOST_POWERS)
    if is_same(value, ("open",)):
        return is_open(form, many)
    if not isinstance(value, tuple) or len(value) != 2:
        return False
    word, shown = value
    if is_same(word, "powers"):
        return are_powers(form.entries, many, shown)
    if is_same(word, "rank"):
        return is_rank(form.entries, many, shown)
    return is_same(word, "killer") and is_no_split_killer(form, many, shown)


def monomial_powers(one, other):
    """The fewest powers of x ** one * y ** other, over the closed field and over the fractions."""
    need_number(one, 0, MOST_EXPONENT)
    need_number(other, 0, MOST_EXPONENT)
    if one == 0 or other == 0:
        return (1, 1)
    return (max(one, other) + 1, one + other)
