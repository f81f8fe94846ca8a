"""Quotients of a group by a kept subgroup, and what is led to them and from them."""

from movemarks.errors import InvalidOperation, InvalidSubgroup, TooMany
from movemarks.lattice.needs import need_kinds, need_move, need_row, need_subgroup, place_of
from movemarks.lattice.subgroups import told
from movemarks.move.groups import Group, need_group
from movemarks.move.products import coset_firsts
from movemarks.point.sets import MovedSet, need_set

MAX_COSETS = 24


def _need_kept(group, place):
    lattice = group.lattice
    if len(lattice.families[lattice.family_at[place]]) > 1:
        raise InvalidOperation("the group does not keep the subgroup")
    if group.order // len(lattice.bodies[place]) > MAX_COSETS:
        raise TooMany(MAX_COSETS)


def _need_quotient(group, subgroup):
    """The place of a subgroup by which there is a quotient; the errors for every other value."""
    need_group(group)
    place = need_subgroup(group, subgroup)
    _need_kept(group, place)
    return place


def _images(lattice, place):
    """For each move of the group the move to which it leads the cosets of the subgroup at a place."""
    firsts = coset_firsts(lattice.table, lattice.bodies[place])
    least = [first for move, first in enumerate(firsts) if move == first]
    number_of = {first: number for number, first in enumerate(least)}
    return [tuple([number_of[firsts[row[first]]] for first in least]) for row in lattice.table]


def _quotient(group, images):
    return Group(len(images[0]), tuple([images[maker] for maker in group.lattice.maker_indices]))


def _quotient_at(group, place):
    return _quotient(group, _images(group.lattice, place))


def quotient_group(group, subgroup):
    """The quotient group."""
    place = _need_quotient(group, subgroup)
    return _quotient_at(group, place)


def image_of(group, subgroup, move):
    """The image of a move."""
    need_group(group)
    place = need_subgroup(group, subgroup)
    index = need_move(group, move)
    _need_kept(group, place)
    return _images(group.lattice, place)[index]


def _images_of(images, body):
    return tuple(sorted(set([images[move] for move in body])))


def images_of(group, subgroup, other):
    """The subgroup of the images of the moves of a subgroup."""
    need_group(group)
    place = need_subgroup(group, subgroup)
    other_place = need_subgroup(group, other)
    _need_kept(group, place)
    return _images_of(_images(group.lattice, place), group.lattice.bodies[other_place])


def _behind(images, moves):
    """The indices of the moves whose images are among some moves, ascending."""
    return tuple([index for index, image in enumerate(images) if image in moves])


def behind(group, subgroup, small):
    """The subgroup of the moves whose images lie in a subgroup of the quotient group."""
    place = _need_quotient(group, subgroup)
    images = _images(group.lattice, place)
    if place_of(_quotient(group, images), small) is None:
        raise InvalidSubgroup("not a subgroup of the quotient group")
    return told(group, _behind(images, small))


def _behind_classes(group, place):
    """For each class of the quotient group the class of the subgroups behind it, and the quotient group."""
    lattice = group.lattice
    images = _images(lattice, place)
    quotient = _quotient(group, images)
    found = []
    for body in quotient.lattice.first_bodies():
        found.append(lattice.family_at[lattice.body_at[_behind(images, told(quotient, body))]])
    return tuple(found), quotient


def quotient_classes(group, subgroup):
    """For each class of the quotient group the index of the class of the subgroups behind it."""
    place = _need_quotient(group, subgroup)
    indices, _ = _behind_classes(group, place)
    return indices


def _image_classes(group, place):
    """For each class the class of its images, and the quotient group."""
    images = _images(group.lattice, place)
    quotient = _quotient(group, images)
    found = []
    for body in group.lattice.first_bodies():
        found.append(quotient.lattice.family_at[place_of(quotient, _images_of(images, body))])
    return tuple(found), quotient


def image_classes(group, subgroup):
    """For each class the index of the class of the quotient group that its images have."""
    place = _need_quotient(group, subgroup)
    indices, _ = _image_classes(group, place)
    return indices


def _left(group, place, row):
    indices, _ = _behind_classes(group, place)
    return tuple([row[index] for index in indices])


def row_left(group, subgroup, row):
    """The row of the quotient group of what is left."""
    need_group(group)
    place = need_subgroup(group, subgroup)
    need_row(group, row)
    _need_kept(group, place)
    return _left(group, place, row)


def kinds_left(group, subgroup, kinds):
    """The kinds, for the quotient group, of what is left."""
    need_group(group)
    place = need_subgroup(group, subgroup)
    need_kinds(group, kinds)
    _need_kept(group, place)
    # Just the parts whose stabilizers have the subgroup within are left, each as it is.
    return _left(group, place, kinds)


def row_lifted(group, subgroup, row):
    """The row of the lifted set, for a row of the quotient group."""
    place = _need_quotient(group, subgroup)
    indices, quotient = _image_classes(group, place)
    need_row(quotient, row)
    return tuple([row[index] for index in indices])


def kinds_lifted(group, subgroup, kinds):
    """The kinds of the lifted set, for kinds of the quotient group."""
    place = _need_quotient(group, subgroup)
    indices, quotient = _behind_classes(group, place)
    need_kinds(quotient, kinds)
    lifted = [0 for _ in group.lattice.families]
    for index, many in zip(indices, kinds):
        lifted[index] = many
    return tuple(lifted)


def set_left(moved, subgroup):
    """The set that is left of a set with moves."""
    need_set(moved)
    place = _need_quotient(moved.group, subgroup)
    still = moved.still(subgroup)
    number_of = {point: number for number, point in enumerate(still)}
    actions = [tuple([number_of[action[point]] for point in still]) for action in moved.actions]
    return MovedSet(_quotient_at(moved.group, place), len(still), tuple(actions))


def set_lifted(group, subgroup, moved):
    """The lifted set of a set with moves of the quotient group."""
    need_group(group)
    place = need_subgroup(group, subgroup)
    need_set(moved)
    _need_kept(group, place)
    images = _images(group.lattice, place)
    if moved.group != _quotient(group, images):
        raise InvalidOperation("the set has no moves of the quotient group")
    actions = [moved.action_by(images[maker]) for maker in group.lattice.maker_indices]
    return MovedSet(group, moved.size, tuple(actions))
