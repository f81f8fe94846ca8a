"""The subgroups of a group, their classes, and what is told of them."""

from movemarks.errors import InvalidOperation
from movemarks.lattice.needs import need_index, need_move, need_subgroup, place_of
from movemarks.move.groups import Group, need_group
from movemarks.move.products import mask_of, turned_body

MAX_MADE_BY = 24
MAX_MAKERS = 6


def told(group, body):
    """The moves of a body, an ascending tuple of indices of moves."""
    return tuple([group.moves[index] for index in body])


def told_at(group, place):
    """The moves of the subgroup at a place."""
    return told(group, group.lattice.bodies[place])


def subgroups(group):
    """The tuple of all subgroups, in their order."""
    need_group(group)
    return tuple([told(group, body) for body in group.lattice.bodies])


def classes(group):
    """The tuple of the first subgroups of all classes, in their order."""
    need_group(group)
    return tuple([told_at(group, family[0]) for family in group.lattice.families])


def class_of(group, subgroup):
    """The index of the class of a subgroup."""
    need_group(group)
    place = need_subgroup(group, subgroup)
    return group.lattice.family_at[place]


def class_members(group, index):
    """The tuple of all subgroups of a class, in their order."""
    need_group(group)
    need_index(group, index)
    return tuple([told_at(group, place) for place in group.lattice.families[index]])


def class_sizes(group):
    """The tuple of the pairs of the size of a subgroup of a class and of the number of its subgroups."""
    need_group(group)
    bodies = group.lattice.bodies
    return tuple([(len(bodies[family[0]]), len(family)) for family in group.lattice.families])


def made_by(group, moves):
    """The subgroup that some moves make."""
    need_group(group)
    if not isinstance(moves, tuple) or len(moves) > MAX_MADE_BY:
        raise InvalidOperation("not a tuple of at most 24 members")
    mask = mask_of([need_move(group, move) for move in moves])
    return told_at(group, group.lattice.least_place(mask))


def is_subgroup(group, value):
    """Whether the value is a subgroup of the group."""
    need_group(group)
    return place_of(group, value) is not None


def meet_of(group, one, other):
    """The subgroup of the moves that are in both subgroups."""
    need_group(group)
    need_subgroup(group, one)
    need_subgroup(group, other)
    return tuple([move for move in one if move in other])


def made_together(group, one, other):
    """The least subgroup that has both subgroups within."""
    need_group(group)
    place = need_subgroup(group, one)
    other_place = need_subgroup(group, other)
    mask = group.lattice.masks[place] | group.lattice.masks[other_place]
    return told_at(group, group.lattice.least_place(mask))


def keeper_body(lattice, place):
    """The ascending list of the indices of the moves that turn the subgroup at a place into itself."""
    body = lattice.bodies[place]
    if len(lattice.families[lattice.family_at[place]]) == 1:
        return list(range(len(lattice.table)))
    return [by for by in range(len(lattice.table)) if turned_body(lattice.table, lattice.back, body, by) == body]


def keeper(group, subgroup):
    """The subgroup of the moves that turn the subgroup into itself."""
    need_group(group)
    return told(group, keeper_body(group.lattice, need_subgroup(group, subgroup)))


def is_kept(group, subgroup):
    """Whether the class of the subgroup has it alone."""
    need_group(group)
    place = need_subgroup(group, subgroup)
    return len(group.lattice.families[group.lattice.family_at[place]]) == 1


def turned(group, subgroup, move):
    """The subgroup, turned by a move."""
    need_group(group)
    lattice = group.lattice
    body = lattice.bodies[need_subgroup(group, subgroup)]
    by = need_move(group, move)
    return told(group, turned_body(lattice.table, lattice.back, body, by))


def small_group(group, subgroup):
    """The subgroup as a group; its makers are those of its moves that the ones ahead do not make."""
    need_group(group)
    body = group.lattice.bodies[need_subgroup(group, subgroup)]
    makers = []
    made = group.lattice.masks[0]
    for move in body:
        if (made >> move) & 1 == 0:
            makers.append(group.moves[move])
            made = group.lattice.masks[group.lattice.least_place(made | mask_of([move]))]
    return Group(group.places, tuple(makers))


def many_above(lattice, place, family):
    """How many subgroups of a family, told by their places, have the one at a place within."""
    mask = lattice.masks[place]
    return len([high for high in family if mask & lattice.masks[high] == mask])


def lies_table(group):
    """The table that has, for two classes, how many subgroups of the second have the first of the first within."""
    need_group(group)
    families = group.lattice.families
    return tuple([tuple([many_above(group.lattice, family[0], others) for others in families]) for family in families])


def is_within(lattice, low, high):
    """Whether the subgroup at the one place lies in that at the other one."""
    return lattice.masks[low] & lattice.masks[high] == lattice.masks[low]


def maximal_places(lattice, top):
    """The ascending list of the places of the subgroups that are maximal in the one at a place."""
    found = []
    # A subgroup that is not maximal lies in a maximal one, which stands behind it.
    for place in range(top - 1, -1, -1):
        mask = lattice.masks[place]
        if mask & lattice.masks[top] == mask and not any([mask & lattice.masks[high] == mask for high in found]):
            found.append(place)
    return found[::-1]


def maximal(group, subgroup):
    """The tuple of the subgroups that are maximal in a subgroup, in their order."""
    need_group(group)
    place = need_subgroup(group, subgroup)
    return tuple([told_at(group, low) for low in maximal_places(group.lattice, place)])


def coset_bodies(table, body):
    """The ascending tuple of the cosets of a body, each an ascending tuple of indices of moves."""
    found = {}
    for move in range(len(table)):
        coset = tuple(sorted([table[move][member] for member in body]))
        found[coset] = True
    return tuple(sorted(found))


def cosets(group, subgroup):
    """The ascending tuple of all cosets of the subgroup, each an ascending tuple."""
    need_group(group)
    body = group.lattice.bodies[need_subgroup(group, subgroup)]
    return tuple([told(group, coset) for coset in coset_bodies(group.lattice.table, body)])


def _places_above(lattice):
    """For each subgroup the list of the places of those in which it is maximal, descending."""
    above = [[] for _ in lattice.bodies]
    for top in range(len(lattice.bodies) - 1, -1, -1):
        for low in maximal_places(lattice, top):
            above[low].append(top)
    return above


def each_flag(group):
    """All tuples of subgroups from that of the unit to the group, each maximal in the next one."""
    need_group(group)
    above = _places_above(group.lattice)
    waiting = [(0,)]
    while len(waiting) > 0:
        flag = waiting.pop()
        if len(above[flag[-1]]) == 0:
            yield tuple([told_at(group, place) for place in flag])
        # What is put behind the others is taken first, so the least place stands last.
        for place in above[flag[-1]]:
            waiting.append(flag + (place,))
