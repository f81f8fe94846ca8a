"""What the parameters of a group must be: its subgroups, its moves, the indices of its classes."""

from movemarks.base.integers import is_integer, need_between
from movemarks.errors import InvalidKinds, InvalidMove, InvalidSubgroup


def place_of(group, value):
    """The place of a subgroup among all subgroups of a group; None for every other value."""
    if not isinstance(value, tuple) or not all([member in group for member in value]):
        return None
    body = tuple([group.lattice.index_of[member] for member in value])
    return group.lattice.body_at.get(body)


def need_subgroup(group, subgroup):
    """The place of a subgroup among all subgroups of a group; the error for every other value."""
    place = place_of(group, subgroup)
    if place is None:
        raise InvalidSubgroup("not a subgroup of the group")
    return place


def need_move(group, move):
    """The index of a move among all moves of a group; the error for every other value."""
    if move not in group:
        raise InvalidMove("not a move of the group")
    return group.lattice.index_of[move]


def need_index(group, index):
    """Raises the error for a value that is no index of a class of a group."""
    need_between(index, 0, len(group.lattice.families) - 1)


def need_kinds(group, kinds):
    """Raises the error for a value that is no tuple of integers, one for each class of a group."""
    if not isinstance(kinds, tuple) or len(kinds) != len(group.lattice.families):
        raise InvalidKinds("not a tuple with a member for each class")
    if not all([is_integer(number) for number in kinds]):
        raise InvalidKinds("a member is no integer of at most sixty digits")
