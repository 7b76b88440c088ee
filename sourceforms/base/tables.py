"""Tables of integers: products, echelons, kernels, determinants and signatures."""

from math import lcm

from sourceforms.base.helper import is_row, lead_of, primitive_row, sign_of
from sourceforms.errors import InvalidOperation, InvalidTable

MAX_SIDE = 24


def is_table(value):
    """Whether the value is a table of integers of at most sixty digits."""
    if not isinstance(value, tuple) or not 1 <= len(value) <= MAX_SIDE:
        return False
    if not all([is_row(row) for row in value]):
        return False
    width = len(value[0])
    return 1 <= width <= MAX_SIDE and all([len(row) == width for row in value])


def need_table(value):
    """Refuse what is no table."""
    if not is_table(value):
        raise InvalidTable("a table of 1 to 24 rows of 1 to 24 integers is wanted")


def is_symmetric(table):
    """Whether a table is square and has equal entries on both sides of its diagonal."""
    size = len(table)
    if len(table[0]) != size:
        return False
    return all([table[i][j] == table[j][i] for i in range(size) for j in range(i)])


def table_product(one, other):
    """The product of two matrices."""
    need_table(one)
    need_table(other)
    if len(one[0]) != len(other):
        raise InvalidOperation("the first table has other columns than the second one has rows")
    columns = [[row[j] for row in other] for j in range(len(other[0]))]
    return tuple([product_line(row, columns) for row in one])


def product_line(row, columns):
    """One row of a product of matrices."""
    return tuple([sum([a * b for a, b in zip(row, column)]) for column in columns])


def pivot_row(rows, begin, column):
    """The index of the first row, from begin on, that has no 0 in the column, or None."""
    for index in range(begin, len(rows)):
        if rows[index][column] != 0:
            return index
    return None


def cleared(rows, at, column, divisor):
    """The rows with a 0 in the column but for the row at the index.

    All entries are minors of the first rows, so dividing by the pivot of the step ahead leaves no rest.
    """
    base = rows[at]
    pivot = base[column]
    found = []
    for index, row in enumerate(rows):
        if index == at:
            found.append(row)
        else:
            factor = row[column]
            found.append([(pivot * a - factor * b) // divisor for a, b in zip(row, base)])
    return found


def echelon(rows):
    """The echelon of rows of integers of one length, perhaps ()."""
    left = [list(row) for row in rows]
    width = len(left[0]) if len(left) > 0 else 0
    done, divisor = 0, 1
    for column in range(width):
        found = pivot_row(left, done, column)
        if found is not None:
            left[done], left[found] = left[found], left[done]
            left = cleared(left, done, column, divisor)
            divisor = left[done][column]
            done = done + 1
    return tuple([primitive_row(row) for row in left[:done]])


def rank(table):
    """The number of the rows of the echelon."""
    need_table(table)
    return len(echelon(table))


def kernel(table):
    """The echelon of all rows whose products with the rows of the table are 0."""
    need_table(table)
    return kernel_rows(table, len(table[0]))


def kernel_rows(rows, width):
    """The kernel of any rows of this width, perhaps of none."""
    # With the columns turned round, the leads stand behind the free columns, so these make the leads.
    base = echelon([row[::-1] for row in rows])
    leads = [lead_of(row) for row in base]
    free = [column for column in range(width) if column not in leads]
    return tuple([kernel_row(base, leads, column, width) for column in reversed(free)])


def kernel_row(base, leads, free, width):
    """The row of the kernel for one free column of an echelon with turned columns."""
    whole = 1
    for row, lead in zip(base, leads):
        whole = lcm(whole, row[lead])
    found = [0 for _ in range(width)]
    found[free] = whole
    for row, lead in zip(base, leads):
        found[lead] = -row[free] * (whole // row[lead])
    return primitive_row(found[::-1])


def determinant_of(rows):
    """The determinant of square rows of integers of any length."""
    left = rows
    sign, divisor = 1, 1
    while len(left) > 0:
        found = pivot_row(left, 0, 0)
        if found is None:
            return 0
        # The row is taken to the front, past so many others.
        sign = sign if found % 2 == 0 else -sign
        base = left[found]
        left = below(left[:found] + left[found + 1:], base, divisor)
        divisor = base[0]
    return sign * divisor


def below(rows, base, divisor):
    """The rows, cleared by a row with a pivot ahead, without their first column."""
    pivot = base[0]
    return [[(pivot * a - row[0] * b) // divisor for a, b in zip(row[1:], base[1:])] for row in rows]


def determinant(table):
    """The determinant of a square table."""
    need_table(table)
    if len(table) != len(table[0]):
        raise InvalidOperation("the table is not square")
    return determinant_of(table)


def signature(table):
    """The signature of a symmetric table."""
    need_table(table)
    if not is_symmetric(table):
        raise InvalidOperation("the table is not symmetric")
    left = [list(row) for row in table]
    found, divisor = 0, 1
    while len(left) > 0:
        left = with_diagonal(left)
        at = lead_of([left[k][k] for k in range(len(left))])
        if at is None:
            return found
        pivot = left[at][at]
        # What is left is the rest of the table times the last pivot, so its sign counts, too.
        found = found + sign_of(pivot) * sign_of(divisor)
        left = without(left, at, divisor)
        divisor = pivot
    return found


def with_diagonal(rows):
    """Symmetric rows with the same signature, and an entry other than 0 in the diagonal unless all are 0."""
    size = len(rows)
    if any([rows[k][k] != 0 for k in range(size)]):
        return rows
    for i in range(size):
        j = lead_of(rows[i])
        if j is not None:
            return added(rows, i, j)
    return rows


def added(rows, i, j):
    """The rows with the row j added to the row i, then the column j to the column i."""
    found = [list(row) for row in rows]
    found[i] = [a + b for a, b in zip(rows[i], rows[j])]
    return [row[:i] + [row[i] + row[j]] + row[i + 1:] for row in found]


def without(rows, at, divisor):
    """The rows, cleared by the one at the index, without this row and this column."""
    found = []
    for index, row in enumerate(cleared(rows, at, at, divisor)):
        if index != at:
            found.append(row[:at] + row[at + 1:])
    return found
