"""Sets that are led down to subgroups, or up to greater groups."""

from movemarks.errors import InvalidKinds
from movemarks.lattice.needs import need_kinds, need_row, need_set_kinds, need_small, need_within
from movemarks.made.inside import classes_inside, first_moves, steps_of
from movemarks.mark.marks import kinds_of_row, row_of_kinds
from movemarks.move.groups import need_group
from movemarks.move.products import turned_body
from movemarks.point.sets import MovedSet, need_points, need_set

MAX_MAPPED = 20


def _need_pair(group, small):
    need_group(group)
    need_small(group, small)


def _class_indices(group, small):
    inside = classes_inside(group, small)
    found = [0 for _ in small.lattice.families]
    for place in inside:
        found[inside[place]] = group.lattice.family_at[place]
    return tuple(found)


def class_indices(group, small):
    """For each class of the small group the index of the class of the group in which its subgroups lie."""
    _need_pair(group, small)
    return _class_indices(group, small)


def _row_down(group, small, row):
    return tuple([row[index] for index in _class_indices(group, small)])


def row_down(group, small, row):
    """The row for the small group of what is led down."""
    _need_pair(group, small)
    need_row(group, row)
    return _row_down(group, small, row)


def row_up(group, small, row):
    """The row for the group of what is led up."""
    _need_pair(group, small)
    need_row(small, row)
    lattice = group.lattice
    inside = classes_inside(group, small)
    undoing = [lattice.back[first] for first in first_moves(group, small)]
    led = []
    for body in lattice.first_bodies():
        places = [lattice.body_at[turned_body(lattice.table, lattice.back, body, by)] for by in undoing]
        led.append(sum([row[inside[place]] for place in places if place in inside]))
    return tuple(led)


def kinds_down(group, small, kinds):
    """The kinds for the small group of what is led down."""
    _need_pair(group, small)
    need_kinds(group, kinds)
    return kinds_of_row(small, _row_down(group, small, row_of_kinds(group, kinds)))


def kinds_up(group, small, kinds):
    """The kinds for the group of what is led up."""
    _need_pair(group, small)
    need_kinds(small, kinds)
    led = [0 for _ in group.lattice.families]
    for index, many in zip(_class_indices(group, small), kinds):
        led[index] = led[index] + many
    return tuple(led)


def set_down(moved, small):
    """The set for the small group of a set that is led down."""
    need_set(moved)
    need_group(small)
    need_within(small, moved.group)
    return MovedSet(small, moved.size, tuple([moved.action_by(maker) for maker in small.makers]))


def _action_up(moved, group, maker):
    """How a maker of the group moves the pairs of the number of a coset and a point."""
    action = []
    for target, move in steps_of(group, moved.group, maker):
        action.extend([target * moved.size + point for point in moved.action_by(move)])
    return tuple(action)


def set_up(moved, group):
    """The set for the group of a set that is led up."""
    need_set(moved)
    need_group(group)
    need_within(moved.group, group)
    size = group.order // moved.group.order * moved.size
    need_points(size)
    return MovedSet(group, size, tuple([_action_up(moved, group, maker) for maker in group.makers]))


def map_count(group, kinds, row):
    """The number of the maps that go along from a set with the kinds to a set with the mark row."""
    need_group(group)
    need_set_kinds(group, kinds)
    if any([many > MAX_MAPPED for many in kinds]):
        raise InvalidKinds("a member is above 20")
    need_row(group, row)
    count = 1
    for many, mark in zip(kinds, row):
        for _ in range(many):
            count = count * mark
    return count
