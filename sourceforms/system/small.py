"""The systems of the degrees 2, 3 and 4: their members, their rules, and covariants expressed by them."""

from math import lcm

from sourceforms.base.helper import need_number
from sourceforms.base.ratios import is_ratio, reduced
from sourceforms.base.tables import echelon
from sourceforms.errors import InvalidOperation, Refused
from sourceforms.form.forms import need_form
from sourceforms.form.layings import run_rows
from sourceforms.sums.sources import is_source, need_sum, sources_of_rows
from sourceforms.sums.sums import added_terms, made_sum, tidy
from sourceforms.system.members import are_powers, mark_of, marks_of, powers_with, product_by

MAX_UNFOLDED = 12

LEAST = 2
MOST = 4

ROWS = {
    2: ((0, 0, 2),),
    3: ((0, 0, 2), (0, 1, 1), (1, 1, 2)),
    4: ((0, 0, 4), (0, 0, 2), (0, 2, 4), (0, 2, 1)),
}

# The index of the member T, which is told by low powers at most once, where there is one.
TURNS = {3: 2, 4: 4}

# The rules, as pairs of powers and integers.
RULES = {
    2: (),
    3: (((0, 0, 2, 0), 2), ((0, 3, 0, 0), 1), ((2, 0, 0, 1), 9)),
    4: (((0, 0, 0, 0, 2), 9), ((0, 0, 3, 0, 0), 8), ((2, 1, 1, 0, 0), -144), ((3, 0, 0, 1, 0), 96)),
}


def system_rows(degree):
    """The triples for the members of the system behind the first one."""
    need_number(degree, LEAST, MOST)
    return ROWS[degree]


def system_at(form):
    """The members of the system for a form of the degree 2, 3 or 4."""
    need_form(form)
    if not LEAST <= form.degree <= MOST:
        raise InvalidOperation("a form of the degree 2, 3 or 4 is wanted")
    return run_rows(ROWS[form.degree], form)


def rule_terms(degree):
    """The rule between the members, as a dict from powers to integers."""
    need_number(degree, LEAST, MOST)
    return dict(RULES[degree])


def low_powers(degree, size, order):
    """All low powers of a size and an order, ascending."""
    found = powers_with(size, order, marks_of(degree, ROWS[degree]))
    if degree not in TURNS:
        return found
    place = TURNS[degree]
    return [powers for powers in found if powers[place] <= 1]


def member_terms(degree):
    """The terms of the sources of all members."""
    return [source.terms for source in sources_of_rows(degree, ROWS[degree])]


def expressed(source):
    """The dict from low powers to ratios other than 0 that makes a source out of those of the members."""
    need_sum(source)
    if not LEAST <= source.degree <= MOST or not is_source(source):
        raise InvalidOperation("a source for the degree 2, 3 or 4 is wanted")
    keys = low_powers(source.degree, source.size, source.order)
    members = member_terms(source.degree)
    columns = [product_by(powers, members) for powers in keys] + [source.terms]
    places = {}
    for column in columns:
        for exponents in column:
            places[exponents] = True
    rows = [[column.get(exponents, 0) for column in columns] for exponents in sorted(places)]
    found = {}
    # The products do not hang on one another, so each row of the echelon tells one ratio.
    for lead, row in enumerate(echelon(rows)):
        if row[-1] != 0:
            found[keys[lead]] = reduced(row[-1], row[lead])
    return found


def are_power_terms(value, marks):
    """Whether the value is a dict from powers of one size, from 1 to 12, and one order to ratios other than 0."""
    if not isinstance(value, dict) or len(value) == 0:
        return False
    if not all([are_powers(powers, len(marks)) for powers in value]):
        return False
    if not all([is_ratio(ratio) and ratio[0] != 0 for ratio in value.values()]):
        return False
    found = [mark_of(powers, marks) for powers in value]
    return 1 <= found[0][0] <= MAX_UNFOLDED and all([mark == found[0] for mark in found])


def unfolded(degree, terms):
    """The sum that a dict from powers to ratios makes out of the sources of the members."""
    need_number(degree, LEAST, MOST)
    if not are_power_terms(terms, marks_of(degree, ROWS[degree])):
        raise InvalidOperation("a dict from powers of one size and one order to ratios other than 0 is wanted")
    whole = 1
    for ratio in terms.values():
        whole = lcm(whole, ratio[1])
    members = member_terms(degree)
    total = {}
    for powers in terms:
        top, bottom = terms[powers]
        total = added_terms(total, product_by(powers, members), top * (whole // bottom))
    total = tidy(total)
    if len(total) == 0:
        raise Refused(("nothing",))
    if any([number % whole != 0 for number in total.values()]):
        raise Refused(("whole",))
    return made_sum(degree, {exponents: total[exponents] // whole for exponents in total})
