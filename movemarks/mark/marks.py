"""The mark table of a group, by which kinds and mark rows tell one another."""

from movemarks.base.integers import reduced
from movemarks.errors import UnknownName
from movemarks.lattice.needs import need_index, need_kinds, need_row, need_subgroup
from movemarks.lattice.subgroups import lies_table, many_above
from movemarks.move.groups import need_group
from movemarks.move.products import coset_firsts, double_firsts, powers_of

ROADS = ("cosets", "doubles", "turned")


def keeper_indices(group):
    """For each class the number of the cosets of its first subgroup in its keeper."""
    need_group(group)
    families, bodies = group.lattice.families, group.lattice.first_bodies()
    return tuple([group.order // (len(family) * len(body)) for family, body in zip(families, bodies)])


def mark_table(group):
    """The table with the mark of the cosets of H(j) at H(i) at the row i and the column j."""
    need_group(group)
    numbers = keeper_indices(group)
    return tuple([tuple([number * many for number, many in zip(numbers, row)]) for row in lies_table(group)])


def _still_firsts(lattice, low, high):
    """The ascending list of the least moves of those cosets of one subgroup that another one leaves."""
    table = lattice.table
    firsts = coset_firsts(table, lattice.bodies[high])
    return [first for move, first in enumerate(firsts)
            if move == first and all([firsts[table[by][first]] == first for by in lattice.bodies[low]])]


def _mark_by_doubles(lattice, low, high):
    low_body, high_body = lattice.bodies[low], lattice.bodies[high]
    doubles = double_firsts(lattice.table, low_body, high_body)
    return len([many for _, many in doubles if many == len(high_body)])


def mark_by(group, index, other, *, road="turned"):
    """The mark of the cosets of the first subgroup of the class `other` at that of the class `index`."""
    need_group(group)
    need_index(group, index)
    need_index(group, other)
    if road not in ROADS:
        raise UnknownName(road)
    lattice = group.lattice
    low, high = lattice.families[index][0], lattice.families[other][0]
    if road == "cosets":
        return len(_still_firsts(lattice, low, high))
    if road == "doubles":
        return _mark_by_doubles(lattice, low, high)
    return keeper_indices(group)[other] * many_above(lattice, low, lattice.families[other])


def still_cosets(group, subgroup, other):
    """The ascending tuple of the least moves of those cosets of `other` that `subgroup` leaves."""
    need_group(group)
    low = need_subgroup(group, subgroup)
    high = need_subgroup(group, other)
    return tuple([group.moves[first] for first in _still_firsts(group.lattice, low, high)])


def coset_row(group, index):
    """The mark row of the cosets of the first subgroup of a class."""
    need_group(group)
    need_index(group, index)
    return tuple([row[index] for row in mark_table(group)])


def each_coset_row(group):
    """The mark rows of the cosets of the first subgroups of all classes, by their indices."""
    need_group(group)
    table = mark_table(group)
    for index in range(len(table)):
        yield tuple([row[index] for row in table])


def row_of_kinds(group, kinds):
    """The mark row of kinds whose integers can have any number of digits."""
    return tuple([sum([mark * many for mark, many in zip(marks, kinds)]) for marks in mark_table(group)])


def marks_of(group, kinds):
    """The mark row of the difference of two sets that has these kinds."""
    need_group(group)
    need_kinds(group, kinds)
    return row_of_kinds(group, kinds)


def kinds_and_rest(group, row):
    """Kinds, and the rest that their mark row leaves of a row whose integers can have any number of digits."""
    table = mark_table(group)
    kinds = [0 for _ in row]
    rest = [0 for _ in row]
    # The table has zeros below its diagonal, so the last kind is told first.
    for at in range(len(row) - 1, -1, -1):
        left = row[at] - sum([table[at][index] * kinds[index] for index in range(at + 1, len(row))])
        kinds[at], rest[at] = divmod(left, table[at][at])
    return tuple(kinds), tuple(rest)


def kinds_of_row(group, row):
    """The kinds whose mark row is a row, with any number of digits; None if it is no mark row."""
    kinds, rest = kinds_and_rest(group, row)
    if any([left != 0 for left in rest]):
        return None
    return kinds


def ratio_kinds(group, row, bottom):
    """The kinds, a tuple of ratios, of a row of integers that are all divided by a bottom above 0."""
    # Multiplied by the order of the group, each row of integers is a mark row.
    kinds = kinds_of_row(group, [group.order * member for member in row])
    return tuple([reduced(many, group.order * bottom) for many in kinds])


def kinds_of(group, row):
    """The kinds whose mark row is the row, or None if the row is no mark row."""
    need_group(group)
    need_row(group, row)
    return kinds_of_row(group, row)


def class_by_move(lattice):
    """For each move the index of the class of the subgroup that it makes."""
    bodies = [tuple(sorted(powers_of(lattice.table, move))) for move in range(len(lattice.table))]
    return [lattice.family_at[lattice.body_at[body]] for body in bodies]


def parts_by_class(group, row):
    """For each class the number of the parts that a set with the mark row has under its first subgroup."""
    made = class_by_move(group.lattice)
    return tuple([sum([row[made[move]] for move in body]) // len(body) for body in group.lattice.first_bodies()])


def part_sum(group, row):
    """The sum of the row at the subgroups that all moves make, divided by the order: a ratio."""
    need_group(group)
    need_row(group, row)
    return reduced(sum([row[index] for index in class_by_move(group.lattice)]), group.order)
