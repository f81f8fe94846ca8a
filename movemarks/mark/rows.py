"""Which rows are mark rows: row sums, rests, least multiples, and papers about rows."""

from math import lcm

from movemarks.base.integers import is_between, is_whole
from movemarks.errors import InvalidOperation
from movemarks.lattice.needs import is_long_row, need_index, need_row
from movemarks.lattice.subgroups import keeper_body
from movemarks.mark.marks import keeper_indices, kinds_and_rest, kinds_of_row, ratio_kinds, row_of_kinds
from movemarks.move.groups import need_group
from movemarks.move.products import mask_of
from movemarks.point.sets import MovedSet, need_points, points_of


def sum_classes(lattice, index):
    """For each coset of the first subgroup H of a class in its keeper the class of what H and the coset make."""
    place = lattice.families[index][0]
    inside = {}
    found = []
    for move in keeper_body(lattice, place):
        if move not in inside:
            coset = [lattice.table[move][member] for member in lattice.bodies[place]]
            for member in coset:
                inside[member] = True
            found.append(lattice.family_at[lattice.least_place(lattice.masks[place] | mask_of(coset))])
    return found


def _row_sum(lattice, row, index):
    indices = sum_classes(lattice, index)
    return sum([row[made] for made in indices]), len(indices)


def row_sum(group, row, index):
    """The pair of the row sum at an index and of the number of its members."""
    need_group(group)
    need_row(group, row)
    need_index(group, index)
    return _row_sum(group.lattice, row, index)


def is_mark_row(group, row):
    """Whether the row is a mark row."""
    need_group(group)
    need_row(group, row)
    return kinds_of_row(group, row) is not None


def _first_fault(lattice, row):
    for index in range(len(row)):
        total, divisor = _row_sum(lattice, row, index)
        if total % divisor != 0:
            return index
    return None


def first_fault(group, row):
    """The least index at which the row sum is not divisible, or None."""
    need_group(group)
    need_row(group, row)
    return _first_fault(group.lattice, row)


def plus_and_less(kinds):
    """The kinds of the two sets, without a class in both, of which these kinds are the difference."""
    plus = tuple([max(many, 0) for many in kinds])
    less = tuple([max(-many, 0) for many in kinds])
    return plus, less


def row_paper(group, row):
    """A paper that shows that the row is a mark row, or that it is none."""
    need_group(group)
    need_row(group, row)
    kinds = kinds_of_row(group, row)
    if kinds is None:
        index = _first_fault(group.lattice, row)
        total, divisor = _row_sum(group.lattice, row, index)
        return ("sum", index, total, divisor)
    plus, less = plus_and_less(kinds)
    return ("sets", plus, less)


def _are_set_kinds(group, value):
    """Whether the value is kinds of a set, with any number of digits."""
    return is_long_row(group, value) and all([many >= 0 for many in value])


def _are_right_sets(group, row, plus, less):
    if not _are_set_kinds(group, plus) or not _are_set_kinds(group, less):
        return False
    if any([one > 0 and other > 0 for one, other in zip(plus, less)]):
        return False
    return row_of_kinds(group, [one - other for one, other in zip(plus, less)]) == row


def _is_right_sum(group, row, told):
    if not all([is_whole(member) for member in told]) or not 0 <= told[0] < len(row):
        return False
    total, divisor = _row_sum(group.lattice, row, told[0])
    return told == (told[0], total, divisor) and total % divisor != 0


def is_row_paper(group, row, value):
    """Whether the value is a right paper of `row_paper`."""
    need_group(group)
    need_row(group, row)
    if not isinstance(value, tuple):
        return False
    if len(value) == 3 and value[0] == "sets":
        return _are_right_sets(group, row, value[1], value[2])
    return len(value) == 4 and value[0] == "sum" and _is_right_sum(group, row, value[1:])


def rest_of_row(group, row):
    """The rest of the row: it differs from the row by a mark row, and its members are below `keeper_indices`."""
    need_group(group)
    need_row(group, row)
    _, rest = kinds_and_rest(group, row)
    return rest


def is_rest(group, value):
    """Whether the value is a row that is its own rest."""
    need_group(group)
    numbers = keeper_indices(group)
    if not isinstance(value, tuple) or len(value) != len(numbers):
        return False
    return all([is_between(member, 0, number - 1) for member, number in zip(value, numbers)])


def each_rest(group):
    """All rests, ascending."""
    need_group(group)
    numbers = keeper_indices(group)
    rest = [0 for _ in numbers]
    yield tuple(rest)
    at = len(rest) - 1
    while at >= 0:
        if rest[at] + 1 < numbers[at]:
            rest[at] = rest[at] + 1
            at = len(rest) - 1
            yield tuple(rest)
        else:
            rest[at] = 0
            at -= 1


def share(group):
    """The number of the rests."""
    need_group(group)
    many = 1
    for number in keeper_indices(group):
        many = many * number
    return many


def bottom_of_row(group, row):
    """The least integer of at least 1 by which a row of integers is a mark row."""
    multiple = 1
    for _, bottom in ratio_kinds(group, row, 1):
        multiple = lcm(multiple, bottom)
    return multiple


def least_multiple(group, row):
    """The least integer of at least 1 by which the row can be multiplied to become a mark row."""
    need_group(group)
    need_row(group, row)
    return bottom_of_row(group, row)


def built_pair(group, row):
    """Two sets such that the row is the mark row of the one, less that of the other."""
    need_group(group)
    need_row(group, row)
    kinds = kinds_of_row(group, row)
    if kinds is None:
        raise InvalidOperation("the row is no mark row")
    plus, less = plus_and_less(kinds)
    # Kinds with too many digits are of too many points, and no wrong kinds.
    need_points(points_of(group.lattice, plus))
    need_points(points_of(group.lattice, less))
    return MovedSet.of_kinds(group, plus), MovedSet.of_kinds(group, less)
