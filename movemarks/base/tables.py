"""Tables of integers: products, determinants, kernels and elementary divisors."""

from math import gcd, lcm

from movemarks.base.integers import is_integer
from movemarks.errors import InvalidOperation, InvalidTable

MAX_SIZE = 60


def _is_line(value):
    if not isinstance(value, tuple) or not 1 <= len(value) <= MAX_SIZE:
        return False
    return all([is_integer(number) for number in value])


def is_table(value):
    """Whether the value is a tuple of 1 to 60 rows of equally many integers, 1 to 60."""
    if not isinstance(value, tuple) or not 1 <= len(value) <= MAX_SIZE:
        return False
    if not all([_is_line(row) for row in value]):
        return False
    return all([len(row) == len(value[0]) for row in value])


def _need_table(table):
    if not is_table(table):
        raise InvalidTable("not a table")


def _columns(rows):
    return [[row[at] for row in rows] for at in range(len(rows[0]))]


def table_product(one, other):
    """The product of two tables."""
    _need_table(one)
    _need_table(other)
    if len(one[0]) != len(other):
        raise InvalidOperation("the one has not as many columns as the other one has rows")
    columns = _columns(other)
    return tuple([tuple([_line_product(row, column) for column in columns]) for row in one])


def _line_product(one, other):
    return sum([left * right for left, right in zip(one, other)])


def _lead_row(rows, start, column):
    for at in range(start, len(rows)):
        if rows[at][column] != 0:
            return at
    return None


def _stepped(row, top, column, last):
    """The row with 0 in the column, as Bareiss tells: the division leaves no rest."""
    pivot = top[column]
    head = row[column]
    return [(pivot * number - head * above) // last for number, above in zip(row, top)]


def _stairs(table):
    """Rows that begin further behind from row to row, and have the kernel of the table.

    With them the tuple of the columns where they begin, and the sign of the exchanges.
    What the last row begins with is, but for the sign, a determinant of so many rows and
    columns of the table; what the row ahead of it begins with is one of a row less.
    """
    rows = [list(row) for row in table]
    last = 1
    sign = 1
    begun = []
    for column in range(len(rows[0])):
        done = len(begun)
        at = _lead_row(rows, done, column)
        if at is not None:
            if at != done:
                rows[at], rows[done] = rows[done], rows[at]
                sign = -sign
            for below in range(done + 1, len(rows)):
                rows[below] = _stepped(rows[below], rows[done], column, last)
            last = rows[done][column]
            begun.append(column)
    return rows[:len(begun)], tuple(begun), sign


def _begun_with(rows, begun):
    """What each row begins with."""
    return [row[column] for row, column in zip(rows, begun)]


def is_invertible(rows):
    """Whether a tuple of rows of equally many integers, with any number of digits, is square and has no determinant 0.

    Without rows the determinant is 1.
    """
    if any([len(row) != len(rows) for row in rows]):
        return False
    return len(rows) == 0 or len(_stairs(rows)[1]) == len(rows)


def determinant(table):
    """The determinant of a square table."""
    _need_table(table)
    if len(table) != len(table[0]):
        raise InvalidOperation("the table is not square")
    rows, begun, sign = _stairs(table)
    return sign * rows[-1][-1] if len(begun) == len(table) else 0


def rank(table):
    """The rank of a table."""
    _need_table(table)
    return len(_stairs(table)[1])


def _kernel_row(rows, begun, free, width):
    """The row of the kernel with 0 at each column where no row begins, but not at the free one."""
    row = [0 for _ in range(width)]
    row[free] = rows[-1][begun[-1]] if len(begun) > 0 else 1
    for at in range(len(begun) - 1, -1, -1):
        column = begun[at]
        # No rest is left: the row is told by determinants.
        row[column] = -_line_product(rows[at], row) // rows[at][column]
    return row


def _without_divisor(row, lead):
    divisor = 0
    for number in row:
        divisor = gcd(divisor, number)
    if row[lead] < 0:
        divisor = -divisor
    return tuple([number // divisor for number in row])


def kernel(table):
    """The echelon of all rows whose product with each row of the table is 0."""
    _need_table(table)
    # The stairs go from the last column to the first one, so that each row of the
    # kernel begins at a column where no row of the stairs does.
    rows, begun, _ = _stairs([line[::-1] for line in table])
    width = len(table[0])
    found = []
    for free in range(width - 1, -1, -1):
        if free not in begun:
            row = _kernel_row(rows, begun, free, width)
            found.append(_without_divisor(row[::-1], width - 1 - free))
    return tuple(found)


def bezout(one, other):
    """The greatest common divisor of two integers above 0, and how often it takes each of them."""
    left, right = one, other
    left_one, right_one = 1, 0
    while right != 0:
        times = left // right
        left, right = right, left - times * right
        left_one, right_one = right_one, left_one - times * right_one
    return left, left_one, (left - left_one * one) // other


def mixed(one, one_times, other, other_times, bound):
    """The sum of so many times two lines, modulo the bound."""
    return [(one_times * left + other_times * right) % bound for left, right in zip(one, other)]


def _column_cleared(rows, bound):
    """The rows with 0 in the first column everywhere but in the first row, all modulo the bound."""
    top = rows[0]
    cleared = []
    for row in rows[1:]:
        if row[0] % top[0] == 0:
            cleared.append(mixed(row, 1, top, -(row[0] // top[0]), bound) if row[0] != 0 else row)
        else:
            shared, top_times, row_times = bezout(top[0], row[0])
            top_part = top[0] // shared
            row_part = row[0] // shared
            cleared.append(mixed(row, top_part, top, -row_part, bound))
            top = mixed(top, top_times, row, row_times, bound)
    return [top] + cleared


def _corner_cleared(rows, bound):
    """The same for the first row, too; rows and columns can have changed places."""
    rows = _column_cleared(rows, bound)
    while any([number != 0 for number in rows[0][1:]]):
        rows = _column_cleared(_columns(rows), bound)
    return rows


def _lead_place(rows):
    for at, row in enumerate(rows):
        for column, number in enumerate(row):
            if number != 0:
                return at, column
    return None


def _diagonal(rows, bound):
    """The divisors of the bound that stand on a diagonal to which the rows come modulo the bound."""
    found = []
    while len(rows) > 0 and len(rows[0]) > 0:
        place = _lead_place(rows)
        if place is None:
            found.append(bound)
            rows = [row[1:] for row in rows[1:]]
        else:
            at, column = place
            ordered = [rows[at]] + rows[:at] + rows[at + 1:]
            rows = [[row[column]] + row[:column] + row[column + 1:] for row in ordered]
            rows = _corner_cleared(rows, bound)
            found.append(gcd(rows[0][0], bound))
            rows = [row[1:] for row in rows[1:]]
    return found


def _as_chain(numbers):
    """The numbers above 0 of which each divides the next one, for the same diagonal."""
    chain = list(numbers)
    for low in range(len(chain)):
        for high in range(low + 1, len(chain)):
            one, other = chain[low], chain[high]
            chain[low] = gcd(one, other)
            chain[high] = lcm(one, other)
    return chain


def _divisors_within(table, bound):
    """The divisors that the table has modulo the bound, each a divisor of the next one."""
    rows = [[number % bound for number in row] for row in table]
    return _as_chain(_diagonal(rows, bound))


def _square_divisors(table, pivots):
    """The elementary divisors of a square table without a kernel, told what its stairs begin with."""
    # All divisors but the last one divide the last two of these determinants, whose
    # common divisor is mostly small; the last divisor is what is left of the last one.
    bound = gcd(pivots[-1], pivots[-2]) if len(pivots) > 1 else 1
    divisors = _divisors_within(table, bound)[:-1]
    last = abs(pivots[-1])
    for divisor in divisors:
        last = last // divisor
    return tuple(divisors + [last])


def elementary_divisors(table):
    """The ascending tuple of the elementary divisors, with repeats."""
    _need_table(table)
    rows, begun, _ = _stairs(table)
    if len(begun) == 0:
        return ()
    pivots = _begun_with(rows, begun)
    if len(begun) == len(table) and len(begun) == len(table[0]):
        return _square_divisors(table, pivots)
    # The product of the divisors divides each determinant of so many rows and columns.
    other_rows, other_begun, _ = _stairs([row[::-1] for row in table[::-1]])
    bound = gcd(pivots[-1], _begun_with(other_rows, other_begun)[-1])
    return tuple(_divisors_within(table, bound)[:len(begun)])
