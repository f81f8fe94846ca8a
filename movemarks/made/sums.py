"""Sums and products of sets, and double cosets."""

from movemarks.base.integers import need_between
from movemarks.lattice.needs import need_index, need_kinds, need_row, need_subgroup
from movemarks.made.inside import double_meets
from movemarks.mark.marks import kinds_of_row, row_of_kinds
from movemarks.move.groups import need_group
from movemarks.move.products import double_firsts

MAX_POWERED = 12


def _need_rows(group, one, other):
    need_group(group)
    need_row(group, one)
    need_row(group, other)


def row_plus(group, one, other):
    """The rows, added member by member."""
    _need_rows(group, one, other)
    return tuple([first + second for first, second in zip(one, other)])


def row_times(group, one, other):
    """The rows, multiplied member by member."""
    _need_rows(group, one, other)
    return tuple([first * second for first, second in zip(one, other)])


def double_cosets(group, one, other):
    """The ascending tuple of the least moves of the double cosets of two subgroups."""
    need_group(group)
    body = group.lattice.bodies[need_subgroup(group, one)]
    other_body = group.lattice.bodies[need_subgroup(group, other)]
    return tuple([group.moves[first] for first, _ in double_firsts(group.lattice.table, body, other_body)])


def each_double(group, one, other):
    """Triples, one for each double coset: its least move, how many moves it has, and the class of its M."""
    need_group(group)
    low = need_subgroup(group, one)
    high = need_subgroup(group, other)
    for move, many, place in double_meets(group.lattice, low, high):
        yield group.moves[move], many, group.lattice.family_at[place]


def pair_kinds(group, index, number):
    """The kinds of the product of the cosets of the first subgroups of two classes."""
    need_group(group)
    need_index(group, index)
    need_index(group, number)
    lattice = group.lattice
    kinds = [0 for _ in lattice.families]
    for _, _, place in double_meets(lattice, lattice.families[index][0], lattice.families[number][0]):
        made = lattice.family_at[place]
        kinds[made] = kinds[made] + 1
    return tuple(kinds)


def product_kinds(group, one, other):
    """The kinds of the product of two differences, told by their kinds."""
    need_group(group)
    need_kinds(group, one)
    need_kinds(group, other)
    marks, others = row_of_kinds(group, one), row_of_kinds(group, other)
    return kinds_of_row(group, [first * second for first, second in zip(marks, others)])


def power_kinds(group, kinds, many):
    """The kinds of the product of so many times the same difference."""
    need_group(group)
    need_kinds(group, kinds)
    need_between(many, 0, MAX_POWERED)
    marks = row_of_kinds(group, kinds)
    power = [1 for _ in marks]
    for _ in range(many):
        power = [member * mark for member, mark in zip(power, marks)]
    return kinds_of_row(group, power)


def marks_equation(group, kinds):
    """The ascending tuple of the different marks of a difference."""
    need_group(group)
    need_kinds(group, kinds)
    return tuple(sorted(set(row_of_kinds(group, kinds))))
