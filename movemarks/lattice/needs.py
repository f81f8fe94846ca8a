"""What the parameters of a group must be: its subgroups, its moves, the indices of its classes."""

from movemarks.base.integers import is_integer, is_whole, need_between
from movemarks.errors import InvalidKinds, InvalidMove, InvalidOperation, InvalidRow, InvalidSubgroup
from movemarks.move.groups import need_group


def place_of(group, value):
    """The place of a subgroup among all subgroups of a group; None for every other value."""
    if not isinstance(value, tuple) or not all([member in group for member in value]):
        return None
    body = tuple([group.lattice.index_of[member] for member in value])
    return group.lattice.body_at.get(body)


def need_subgroup(group, subgroup):
    """The place of a subgroup among all subgroups of a group; the error for every other value."""
    place = place_of(group, subgroup)
    if place is None:
        raise InvalidSubgroup("not a subgroup of the group")
    return place


def need_move(group, move):
    """The index of a move among all moves of a group; the error for every other value."""
    if move not in group:
        raise InvalidMove("not a move of the group")
    return group.lattice.index_of[move]


def need_index(group, index):
    """Raises the error for a value that is no index of a class of a group."""
    need_between(index, 0, len(group.lattice.families) - 1)


def is_row(group, value):
    """Whether the value is a tuple of integers, one for each class of a group."""
    if not isinstance(value, tuple) or len(value) != len(group.lattice.families):
        return False
    return all([is_integer(member) for member in value])


def is_long_row(group, value):
    """Whether the value is a tuple of integers with any number of digits, one for each class of a group."""
    if not isinstance(value, tuple) or len(value) != len(group.lattice.families):
        return False
    return all([is_whole(member) for member in value])


def need_row(group, row):
    """Raises the error for a value that is no tuple of integers, one for each class of a group."""
    if not is_row(group, row):
        raise InvalidRow("not a tuple of integers, one for each class")


def need_kinds(group, kinds):
    """Raises the error for a value that is no tuple of integers, one for each class of a group."""
    if not is_row(group, kinds):
        raise InvalidKinds("not a tuple of integers, one for each class")


def need_set_kinds(group, kinds):
    """Raises the error for a value that is no kinds of a set: no member is below 0."""
    need_kinds(group, kinds)
    if any([many < 0 for many in kinds]):
        raise InvalidKinds("a member is below 0")


def need_within(small, group):
    """Raises the error for a group that does not lie in the other one."""
    if small.places != group.places or not all([move in group for move in small.moves]):
        raise InvalidOperation("the one group does not lie in the other one")


def need_small(group, small):
    """Raises the errors for a value that is no group, or none that lies in the group."""
    need_group(small)
    need_within(small, group)
