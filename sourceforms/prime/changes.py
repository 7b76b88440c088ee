"""Which changes lead a form over a prime field to another one, and which keep it."""

from sourceforms.base.helper import is_change, is_same, is_whole_change, powers_of
from sourceforms.errors import InvalidOperation, InvalidTable, Refused
from sourceforms.form.forms import derived_row
from sourceforms.prime.fields import all_points, changed_modulo, determinant_of, need_prime, need_prime_form
from sourceforms.prime.fields import plain_change, product_of_changes, undone_change, value_at
from sourceforms.prime.rows import plain_row

# The kinds of groups by the number of their tables, if they are none of one table's powers and no mirrors.
SOLIDS = {12: ("four",), 24: ("six",), 60: ("twelve",)}

STILL = ((1, 0), (0, 1))


def flat_table(entries, point, prime):
    """The change that makes a point that is no root (1, 0), and the entry with the index 1 of the form 0.

    Its second column is told but for a factor: the form, derived in its direction, is 0 at the point.
    """
    by_x = value_at(derived_row(entries, 1, 0), point[0], point[1], prime)
    by_y = value_at(derived_row(entries, 0, 1), point[0], point[1], prime)
    return ((point[0], -by_y), (point[1], by_x))


def flat_points(form):
    """All prime points that are no roots of a form, ascending."""
    prime = form.prime
    return [point for point in all_points(prime) if value_at(form.entries, point[0], point[1], prime) != 0]


def fitting_steps(row, wanted, powers, prime):
    """All integers from 1 on by which y is multiplied in a row to make it a multiple of the wanted one."""
    found = list(range(1, prime))
    for place in range(2, len(row)):
        first, second = row[place] * wanted[0], wanted[place] * row[0]
        found = [step for step in found if (first * powers[step][place] - second) % prime == 0]
    return found


def leading_tables(one, other):
    """All plain tables that lead a form to another one, ascending, in a list.

    A table leads to the second form, made flat at one point, exactly if it makes the first one flat, too.
    """
    prime = one.prime
    base = flat_table(other.entries, flat_points(other)[0], prime)
    wanted = changed_modulo(other.entries, base, prime)
    back = undone_change(base)
    powers = [powers_of(step, one.degree) for step in range(prime)]
    found = []
    for point in flat_points(one):
        flat = flat_table(one.entries, point, prime)
        row = changed_modulo(one.entries, flat, prime)
        for step in fitting_steps(row, wanted, powers, prime):
            table = ((flat[0][0], flat[0][1] * step), (flat[1][0], flat[1][1] * step))
            found.append(plain_change(product_of_changes(table, back), prime))
    return sorted(found)


def need_pair(one, other):
    """Refuse forms no table can lead to one another."""
    need_prime_form(one)
    need_prime_form(other)
    if one.prime != other.prime or one.degree != other.degree or one.degree == 0:
        raise InvalidOperation("forms of one prime and one degree of at least 1 are wanted")
    if one.is_zero or other.is_zero:
        raise InvalidOperation("forms other than 0 are wanted")


def changes_between(one, other):
    """All plain tables that lead a form to another one, ascending."""
    need_pair(one, other)
    for table in leading_tables(one, other):
        yield table


def like_paper(one, other):
    """A table that leads a form to another one, or what shows that there is none."""
    need_pair(one, other)
    first, second = one.pattern(), other.pattern()
    if first != second:
        return ("pattern", first, second)
    tables = leading_tables(one, other)
    if len(tables) > 0:
        return ("table", tables[0])
    return ("none",)


def does_lead(one, other, table):
    """Whether a change leads a form to another one."""
    prime = one.prime
    if determinant_of(table) % prime == 0:
        return False
    row = changed_modulo(one.entries, table, prime)
    return plain_row(row, prime) == plain_row(other.entries, prime)


def is_like_paper(one, other, value):
    """Whether the value shows that a table leads a form to another one, or that none does."""
    need_pair(one, other)
    if not isinstance(value, tuple):
        return False
    if len(value) == 2 and is_same(value[0], "table"):
        return is_whole_change(value[1]) and does_lead(one, other, value[1])
    if is_same(value, ("none",)):
        return len(leading_tables(one, other)) == 0
    first, second = one.pattern(), other.pattern()
    return first != second and is_same(value, ("pattern", first, second))


def kept_tables(form):
    """All plain tables that keep a form, ascending."""
    need_prime_form(form)
    if form.is_zero:
        raise InvalidOperation("a form other than 0 is wanted")
    many = sum([degree for degree, _ in form.pattern()])
    if many < 3:
        raise Refused(("roots", many))
    return tuple(leading_tables(form, form))


def order_of(table, prime):
    """How many tables like this one are multiplied to make a multiple of ((1, 0), (0, 1))."""
    found, left = 1, plain_change(table, prime)
    while left != STILL:
        found, left = found + 1, plain_change(product_of_changes(left, table), prime)
    return found


def table_order(prime, table):
    """The least number of tables like this one whose product is a multiple of ((1, 0), (0, 1))."""
    need_prime(prime)
    if not is_change(table):
        raise InvalidTable("a pair of pairs of integers is wanted")
    if determinant_of(table) % prime == 0:
        raise InvalidOperation("the prime divides the determinant")
    return order_of(table, prime)


def kept_kind(form):
    """The kind of the group of the plain tables that keep a form."""
    tables = kept_tables(form)
    many = len(tables)
    greatest = max([order_of(table, form.prime) for table in tables])
    if greatest == many:
        return ("ring", many)
    if 2 * greatest == many:
        return ("mirrors", greatest)
    return SOLIDS[many]
