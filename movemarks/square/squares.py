"""Rows that are their own squares, rows at primes, and kinds of rows of ratios."""

from math import gcd, lcm

from movemarks.base.integers import is_between, is_ratio, is_whole, need_prime, part_at
from movemarks.errors import InvalidOperation, InvalidRow
from movemarks.lattice.needs import need_index, need_row
from movemarks.lattice.steps import core_classes, firm_classes, perfect_classes, step_classes
from movemarks.mark.marks import kinds_of_row, ratio_kinds
from movemarks.mark.rows import bottom_of_row, sum_classes
from movemarks.move.groups import need_group

SUM = "sum"
STEPS = "steps"


def is_own_square(group, value):
    """Whether the value is a mark row all of whose members are 0 or 1."""
    need_group(group)
    if not isinstance(value, tuple) or len(value) != len(group.lattice.families):
        return False
    return all([is_between(member, 0, 1) for member in value]) and kinds_of_row(group, value) is not None


def _rows_of_ones(indices, led):
    """For each of some class indices the row with 1 at the classes that are led to it, and 0 elsewhere."""
    return tuple([tuple([1 if target == index else 0 for target in led]) for index in indices])


def square_rows(group):
    """The least own squares, by the classes of perfect subgroups."""
    need_group(group)
    return _rows_of_ones(perfect_classes(group), step_classes(group))


def square_kinds(group):
    """The kinds of the least own squares, by the classes of perfect subgroups."""
    need_group(group)
    return tuple([kinds_of_row(group, row) for row in square_rows(group)])


def each_square(group):
    """All own squares, ascending."""
    need_group(group)
    found = [tuple([0 for _ in group.lattice.families])]
    for least in square_rows(group):
        found = found + [tuple([one + other for one, other in zip(row, least)]) for row in found]
    for square in sorted(found):
        yield square


def _need_bits(group, row):
    need_group(group)
    need_row(group, row)
    if not all([is_between(member, 0, 1) for member in row]):
        raise InvalidOperation("a member of the row is neither 0 nor 1")


def _unlike_steps(row, led):
    """Two class indices that are led to one class, and at which the row has unlike members; or None."""
    for index, target in enumerate(led):
        first = led.index(target)
        if row[first] != row[index]:
            return first, index
    return None


def square_paper(group, row):
    """A paper that shows that a row of zeros and ones is an own square, or that it is none."""
    _need_bits(group, row)
    unlike = _unlike_steps(row, step_classes(group))
    if unlike is not None:
        return (STEPS, unlike[0], unlike[1])
    return (SUM, _ones_at(row, perfect_classes(group)))


def _ones_at(row, indices):
    return tuple([index for index in indices if row[index] == 1])


def _is_right_sum(group, row, indices):
    if not isinstance(indices, tuple) or not all([is_whole(index) for index in indices]):
        return False
    return _unlike_steps(row, step_classes(group)) is None and indices == _ones_at(row, perfect_classes(group))


def is_square_paper(group, row, value):
    """Whether the value is a right paper of `square_paper`."""
    _need_bits(group, row)
    if not isinstance(value, tuple):
        return False
    if len(value) == 2 and value[0] == SUM:
        return _is_right_sum(group, row, value[1])
    if len(value) != 3 or value[0] != STEPS:
        return False
    if not all([is_between(index, 0, len(row) - 1) for index in value[1:]]):
        return False
    led = step_classes(group)
    return led[value[1]] == led[value[2]] and row[value[1]] != row[value[2]]


def _is_long_ratio(value):
    """Whether the value is a ratio of integers with any number of digits."""
    if not isinstance(value, tuple) or len(value) != 2 or not all([is_whole(member) for member in value]):
        return False
    return value[1] > 0 and gcd(value[0], value[1]) == 1


def _with_one_bottom(ratios):
    """The tops of ratios that are told with one bottom, and this bottom."""
    shared = 1
    for _, bottom in ratios:
        shared = lcm(shared, bottom)
    return [top * (shared // bottom) for top, bottom in ratios], shared


def _do_sums_fit(group, prime, row):
    """Whether each row sum is divisible by the part at the prime of the number of the cosets."""
    for index in range(len(row)):
        members = [row[made] for made in sum_classes(group.lattice, index)]
        if sum(members) % part_at(prime, len(members)) != 0:
            return False
    return True


def is_row_at(group, prime, value):
    """Whether the value is a row of ratios that is a row at the prime."""
    need_group(group)
    need_prime(prime)
    if not isinstance(value, tuple) or len(value) != len(group.lattice.families):
        return False
    if not all([_is_long_ratio(ratio) and ratio[1] % prime != 0 for ratio in value]):
        return False
    # The prime does not divide the one bottom either, so the tops alone decide.
    tops, _ = _with_one_bottom(value)
    return _do_sums_fit(group, prime, tops)


def square_rows_at(group, prime):
    """The least own squares at the prime, by the classes of firm subgroups."""
    need_group(group)
    need_prime(prime)
    return _rows_of_ones(firm_classes(group, prime), core_classes(group, prime))


def _row_of_one(group, index):
    """The row with 1 at a class, and 0 elsewhere."""
    return [1 if at == index else 0 for at in range(len(group.lattice.families))]


def part_kinds(group, index):
    """The kinds, a tuple of ratios, of the row with 1 at a class, and 0 elsewhere."""
    need_group(group)
    need_index(group, index)
    return ratio_kinds(group, _row_of_one(group, index), 1)


def part_bottom(group, index):
    """The least integer of at least 1 by which the row with 1 at a class, and 0 elsewhere, is a mark row."""
    need_group(group)
    need_index(group, index)
    return bottom_of_row(group, _row_of_one(group, index))


def kinds_of_ratios(group, ratios):
    """The kinds, a tuple of ratios, of a row of ratios."""
    need_group(group)
    if not isinstance(ratios, tuple) or len(ratios) != len(group.lattice.families):
        raise InvalidRow("not a tuple of ratios, one for each class")
    if not all([is_ratio(ratio) for ratio in ratios]):
        raise InvalidRow("a member is no ratio")
    tops, bottom = _with_one_bottom(ratios)
    return ratio_kinds(group, tops, bottom)
