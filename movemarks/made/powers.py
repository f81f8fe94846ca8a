"""Up powers of sets, sets of maps, and sets of lots of points."""

from math import comb

from movemarks.base.integers import need_between
from movemarks.errors import TooMany
from movemarks.lattice.needs import need_index, need_row, need_set_kinds, need_small, need_within
from movemarks.made.inside import body_inside, classes_inside, double_meets, steps_of
from movemarks.move.groups import need_group
from movemarks.point.sets import MovedSet, need_points, need_set, need_sets, points_of

MAX_POINTS = 60
MAX_LISTED = 600
MAX_MANY = 60


def _parts_under(lattice, index, kinds):
    """The parts that a set with the kinds has under the first subgroup of a class.

    A list of triples: the size of a part, the place of the stabilizer there of one of its points, and how many
    such parts there are.
    """
    place = lattice.families[index][0]
    found = []
    for many, family in zip(kinds, lattice.families):
        if many > 0:
            size = len(lattice.bodies[family[0]])
            for _, moves, meet in double_meets(lattice, place, family[0]):
                found.append((moves // size, meet, many))
    return found


def sizes_under(lattice, index, kinds):
    """The dict from the sizes of the parts under the first subgroup of a class to how many have this size."""
    sizes = {}
    for size, _, many in sorted(_parts_under(lattice, index, kinds)):
        sizes[size] = sizes.get(size, 0) + many
    return sizes


def part_sizes(group, kinds, index):
    """The dict from the sizes of the parts under the first subgroup of a class to how many have this size."""
    need_group(group)
    need_set_kinds(group, kinds)
    need_index(group, index)
    return sizes_under(group.lattice, index, kinds)


def row_up_power(group, small, row):
    """The row of the up power, for a row of the small group."""
    need_group(group)
    need_small(group, small)
    need_row(small, row)
    lattice = group.lattice
    inside = classes_inside(group, small)
    top = lattice.body_at[body_inside(group, small)]
    led = []
    for family in lattice.families:
        member = 1
        # The double cosets of the small group and K are told by the moves that undo the told ones.
        for _, _, meet in double_meets(lattice, top, family[0]):
            member = member * row[inside[meet]]
        led.append(member)
    return tuple(led)


def _maps_member(lattice, row, kinds, index):
    member = 1
    for _, meet, many in _parts_under(lattice, index, kinds):
        for _ in range(many):
            member = member * row[lattice.family_at[meet]]
    return member


def maps_row(group, row, kinds):
    """The row of the maps from a set with the kinds to a set with the row as its mark row."""
    need_group(group)
    need_row(group, row)
    need_set_kinds(group, kinds)
    need_points(points_of(group.lattice, kinds))
    return tuple([_maps_member(group.lattice, row, kinds, index) for index in range(len(row))])


def _choices(sizes, many):
    """In how many ways some parts, told by the dict of their sizes, have so many points in all."""
    ways = [1] + [0 for _ in range(many)]
    for size in sizes:
        taken = [comb(sizes[size], number) for number in range(many // size + 1)]
        ways = [sum([taken[number] * ways[points - number * size] for number in range(points // size + 1)])
                for points in range(many + 1)]
    return ways[many]


def lots_row(group, kinds, many):
    """The mark row of the lots of so many points of a set with the kinds."""
    need_group(group)
    need_set_kinds(group, kinds)
    need_between(many, 0, MAX_MANY)
    return tuple([_choices(sizes_under(group.lattice, index, kinds), many) for index in range(len(kinds))])


def lots_all_row(group, kinds):
    """The mark row of all lots of points of a set with the kinds."""
    need_group(group)
    need_set_kinds(group, kinds)
    if points_of(group.lattice, kinds) > MAX_LISTED:
        raise TooMany(MAX_LISTED)
    parts = [sum([many for _, _, many in _parts_under(group.lattice, index, kinds)]) for index in range(len(kinds))]
    return tuple([1 << many for many in parts])


def _need_tuples(many, length):
    """Raises the error for more tuples of so many points than a set can have points."""
    count = 1
    for _ in range(length):
        count = count * many
        need_points(count)


def _tuples_of(many, length):
    """The ascending list of all tuples of so many points."""
    found = [()]
    for _ in range(length):
        found = [one + (point,) for one in found for point in range(many)]
    return found


def _action_on(tuples, targets, leads):
    """How tuples move if the member at each place is led by the lead there, and stands at the target then."""
    number_of = {one: number for number, one in enumerate(tuples)}
    action = []
    for one in tuples:
        moved = [0 for _ in one]
        for place, target in enumerate(targets):
            moved[target] = leads[place][one[place]]
        action.append(number_of[tuple(moved)])
    return tuple(action)


def up_power_set(moved, group):
    """The up power of a set with moves of a subgroup."""
    need_set(moved)
    need_group(group)
    need_within(moved.group, group)
    length = group.order // moved.group.order
    _need_tuples(moved.size, length)
    tuples = _tuples_of(moved.size, length)
    actions = []
    for maker in group.makers:
        steps = steps_of(group, moved.group, maker)
        leads = [moved.action_by(move) for _, move in steps]
        actions.append(_action_on(tuples, [target for target, _ in steps], leads))
    return MovedSet(group, len(tuples), tuple(actions))


def maps_set(one, other):
    """The maps from the other set to the one, a set with moves of the group of the one."""
    need_sets(one, other)
    _need_tuples(one.size, other.size)
    tuples = _tuples_of(one.size, other.size)
    actions = []
    for maker in one.group.makers:
        leads = [one.action_by(maker) for _ in range(other.size)]
        actions.append(_action_on(tuples, other.action_by(maker), leads))
    return MovedSet(one.group, len(tuples), tuple(actions))


def _need_lots(moved, many, most):
    need_set(moved)
    need_between(many, 0, MAX_MANY)
    if comb(moved.size, many) > most:
        raise TooMany(most)


def _lots_of(size, many):
    """The ascending list of the ascending tuples of so many of the points from 0 to the size less 1."""
    lots = [()]
    for place in range(many):
        # Enough points must be left for the places behind this one.
        lots = [lot + (point,) for lot in lots for point in range(max(lot + (-1,)) + 1, size - many + place + 1)]
    return lots


def lots_set(moved, many):
    """The lots of so many points as a set with moves."""
    _need_lots(moved, many, MAX_POINTS)
    lots = _lots_of(moved.size, many)
    number_of = {lot: number for number, lot in enumerate(lots)}
    actions = [tuple([number_of[tuple(sorted([action[point] for point in lot]))] for lot in lots])
               for action in moved.actions]
    return MovedSet(moved.group, len(lots), tuple(actions))


def each_lot(moved, many):
    """The lots of so many points, ascending tuples, ascending."""
    _need_lots(moved, many, MAX_LISTED)
    for lot in _lots_of(moved.size, many):
        yield lot
