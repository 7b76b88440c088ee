"""Sources, which are sums whose lowered sum is 0, and their covariants."""

from math import factorial, perm

from sourceforms.base.helper import is_same, need_number
from sourceforms.count.boxes import box_count
from sourceforms.errors import InvalidOperation, InvalidRows, InvalidSum, Refused, TooMany
from sourceforms.form.forms import MAX_DEGREE, made_form, need_form
from sourceforms.form.layings import is_row_list
from sourceforms.sums.sums import MAX_SIZE, MAX_SUMMED, Sum, added_terms, made_sum, product_terms
from sourceforms.sums.unknowns import source_rows, terms_of

MAX_RUN = 12
MOST_UNKNOWN = 300

# The greatest order and the greatest weight of a sum: eight times twelve.
MOST_ORDER = 96


def need_sum(value):
    """Refuse what is no sum."""
    if not isinstance(value, Sum):
        raise InvalidSum("an object of Sum is wanted")


def is_source(total):
    """Whether a sum is a source."""
    return not total.is_zero and total.lowered().is_zero


def need_source(total):
    """Refuse a sum that is no source."""
    if not is_source(total):
        raise Refused(("source",))


def source_paper(source):
    """A paper about a sum: ("source",), ("zero",), or a term of the lowered sum."""
    need_sum(source)
    if source.is_zero:
        return ("zero",)
    terms = source.lowered().terms
    if len(terms) == 0:
        return ("source",)
    # The shortest integer is taken, since papers should not be longer than they must be.
    _, exponents = min([(abs(terms[exponents]), exponents) for exponents in terms])
    return ("term", exponents, terms[exponents])


def is_source_paper(source, value):
    """Whether the value is a right paper about a sum."""
    need_sum(source)
    if source.is_zero:
        return is_same(value, ("zero",))
    terms = source.lowered().terms
    if len(terms) == 0:
        return is_same(value, ("source",))
    return any([is_same(value, ("term", exponents, terms[exponents])) for exponents in terms])


def entry_behind(entry, index):
    """The entry of a covariant with this index, made of the one ahead of it."""
    terms = entry.raised().terms
    return made_sum(entry.degree, {exponents: terms[exponents] // index for exponents in terms})


def run_of(first, most):
    """The entries of a covariant with the indices from 0 to most, in a list."""
    found = [first]
    for index in range(1, most + 1):
        found.append(entry_behind(found[-1], index))
    return found


def covariant_of(source):
    """The tuple of the entries of a source's covariant."""
    need_sum(source)
    need_source(source)
    return tuple(run_of(source, source.order))


def covariant_at(source, form):
    """The covariant of a source at a form."""
    need_sum(source)
    need_form(form)
    need_source(source)
    if form.degree != source.degree:
        raise InvalidOperation("a form of the degree of the source is wanted")
    if source.order > MAX_DEGREE:
        raise TooMany(MAX_DEGREE)
    return made_form(tuple([entry.at(form) for entry in run_of(source, source.order)]))


def laid_first(one, other, orders, times):
    """The first entry of a laying of two covariants, by their entries up to the index `times`, and both orders."""
    p, q = orders
    terms = {}
    for i in range(times + 1):
        j = times - i
        factor = perm(p - i, j) * perm(q - j, i) * factorial(times)
        if i % 2 != 0:
            factor = -factor
        terms = added_terms(terms, product_terms(one[i].terms, other[j].terms), factor)
    return made_sum(one[0].degree, terms)


def laid_source(one, other, times):
    """The first entry of a laying of the covariants of two sources."""
    need_sum(one)
    need_sum(other)
    need_number(times, 0, MOST_ORDER)
    need_source(one)
    need_source(other)
    if one.degree != other.degree:
        raise InvalidOperation("sources for one degree are wanted")
    if times > min(one.order, other.order):
        raise InvalidOperation("no laying is taken more often than both orders tell")
    if one.size + other.size > MAX_SIZE:
        raise TooMany(MAX_SIZE)
    return laid_first(run_of(one, times), run_of(other, times), (one.order, other.order), times)


def source_basis(degree, size, weight):
    """The echelon of all sources of a size and a weight."""
    need_number(degree, 1, MAX_SUMMED)
    need_number(size, 0, MAX_SIZE)
    need_number(weight, 0, MOST_ORDER)
    if box_count(weight, size, degree) > MOST_UNKNOWN:
        raise TooMany(MOST_UNKNOWN)
    if 2 * weight > degree * size:
        return ()
    terms = terms_of(degree, size, weight)
    found = []
    for row in source_rows(degree, size, weight, terms):
        found.append(made_sum(degree, {exponents: number for exponents, number in zip(terms, row)}))
    return tuple(found)


def row_orders(degree, rows):
    """The orders of all rows of a row list, or None if one of its layings is not there."""
    orders = [degree]
    for first, second, times in rows:
        if times > min(orders[first], orders[second]):
            return None
        orders.append(orders[first] + orders[second] - 2 * times)
    return orders


def row_sizes(rows):
    """The row sizes of all rows of a row list."""
    sizes = [1]
    for first, second, _ in rows:
        sizes.append(sizes[first] + sizes[second])
    return sizes


def sources_of_rows(degree, rows):
    """The list of the first entries of all rows of a row list for a degree, of sizes up to 12."""
    orders = row_orders(degree, rows)
    wanted = [0 for _ in orders]
    for first, second, times in rows:
        wanted[first] = max(wanted[first], times)
        wanted[second] = max(wanted[second], times)
    runs = [run_of(Sum.entry(degree, 0), wanted[0])]
    for first, second, times in rows:
        source = laid_first(runs[first], runs[second], (orders[first], orders[second]), times)
        runs.append(run_of(source, wanted[len(runs)]))
    return [run[0] for run in runs]


def source_of_rows(degree, rows):
    """The first entry of the last row of a row list for a degree."""
    need_number(degree, 1, MAX_SUMMED)
    if not is_row_list(rows) or len(rows) > MAX_RUN or row_orders(degree, rows) is None:
        raise InvalidRows("a row list of at most 12 triples is wanted, each laying of which is there")
    if max(row_sizes(rows)) > MAX_SIZE:
        raise TooMany(MAX_SIZE)
    return sources_of_rows(degree, rows)[-1]
