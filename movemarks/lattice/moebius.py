"""Chains of subgroups, Moebius numbers, and how many tuples of moves make a group."""

from movemarks.base.integers import need_between, need_prime, part_at, raised
from movemarks.errors import InvalidOperation, TooMany
from movemarks.lattice.needs import need_subgroup
from movemarks.lattice.subgroups import is_within, maximal_places, told_at
from movemarks.move.groups import need_group

MAX_MAKERS = 30
MAX_TUPLES = 4000


def _need_pair(group, low, high):
    """The places of two subgroups of which the one lies in the other one; the errors for other values."""
    need_group(group)
    place = need_subgroup(group, low)
    top = need_subgroup(group, high)
    if not is_within(group.lattice, place, top):
        raise InvalidOperation("the one subgroup does not lie in the other one")
    return place, top


def _numbers_up(lattice, top):
    """The dict from the places of the subgroups that lie in the one at a place to their numbers mu."""
    numbers = {top: 1}
    for place in range(top - 1, -1, -1):
        if is_within(lattice, place, top):
            above = [numbers[upper] for upper in numbers if is_within(lattice, place, upper)]
            numbers[place] = -sum(above)
    return numbers


def moebius(group, low, high):
    """The number mu of two subgroups of which the one lies in the other one."""
    place, top = _need_pair(group, low, high)
    return _numbers_up(group.lattice, top)[place]


def _one_longer(counts):
    """The dict of the lengths of all chains of some dicts, each made longer by one, to how many there are."""
    longer = {}
    for lengths in counts:
        for length in lengths:
            longer[length + 1] = longer.get(length + 1, 0) + lengths[length]
    return longer


def chain_counts(group, low, high):
    """The dict from the lengths of the chains from the one subgroup up to the other one to how many there are."""
    place, top = _need_pair(group, low, high)
    lattice = group.lattice
    counts = {top: {0: 1}}
    for lower in range(top - 1, place - 1, -1):
        if is_within(lattice, lower, top):
            above = [counts[upper] for upper in counts if is_within(lattice, lower, upper)]
            counts[lower] = _one_longer(above)
    return {length: counts[place][length] for length in sorted(counts[place])}


def _whole_numbers(lattice):
    """The dict from the places of all subgroups to their numbers mu up to the group."""
    return _numbers_up(lattice, len(lattice.bodies) - 1)


def moebius_row(group):
    """The numbers mu of the first subgroups of all classes up to the group."""
    need_group(group)
    numbers = _whole_numbers(group.lattice)
    return tuple([numbers[family[0]] for family in group.lattice.families])


def _making_powers(lattice):
    numbers = _whole_numbers(lattice)
    sums = {}
    for place, body in enumerate(lattice.bodies):
        sums[len(body)] = sums.get(len(body), 0) + numbers[place]
    return [(size, sums[size]) for size in sorted(sums) if sums[size] != 0]


def making_powers(group):
    """Pairs of a number of moves and of the sum of mu over all subgroups with so many, as far as it is not 0."""
    need_group(group)
    return tuple(_making_powers(group.lattice))


def _makings(lattice, many):
    return sum([number * raised(size, many) for size, number in _making_powers(lattice)])


def makings(group, many):
    """The number of the tuples of so many moves that make the group."""
    need_group(group)
    need_between(many, 0, MAX_MAKERS)
    return _makings(group.lattice, many)


def least_makers(group):
    """The least number of moves that make the group."""
    need_group(group)
    many = 0
    while _makings(group.lattice, many) == 0:
        many += 1
    return many


def _tuples_made(lattice, many):
    """The pairs of a tuple of so many moves, told by indices, and of the place of what it makes, ascending."""
    found = [((), 0)]
    for _ in range(many):
        made = [(one + (move,), lattice.masks[place] | (1 << move))
                for one, place in found for move in range(len(lattice.table))]
        found = [(one, lattice.least_place(mask)) for one, mask in made]
    return found


def each_making(group, many):
    """All tuples of so many moves that make the group, ascending."""
    need_group(group)
    need_between(many, 0, MAX_MAKERS)
    if raised(group.order, many) > MAX_TUPLES:
        raise TooMany(MAX_TUPLES)
    lattice = group.lattice
    for one, place in _tuples_made(lattice, many):
        if len(lattice.bodies[place]) == group.order:
            yield tuple([group.moves[move] for move in one])


def _meet_above(lattice, place):
    """The mask of what all maximal subgroups that have the subgroup at a place within have in common."""
    mask = lattice.masks[-1]
    for high in maximal_places(lattice, len(lattice.bodies) - 1):
        if is_within(lattice, place, high):
            mask = mask & lattice.masks[high]
    return mask


def is_meet(group, subgroup):
    """Whether the subgroup is the whole group, or what some maximal subgroups have in common."""
    need_group(group)
    place = need_subgroup(group, subgroup)
    return _meet_above(group.lattice, place) == group.lattice.masks[place]


def common_part(group):
    """The subgroup of the moves that all maximal subgroups have in common; all moves if there are none."""
    need_group(group)
    return told_at(group, group.lattice.place_at[_meet_above(group.lattice, 0)])


def chain_sum(group, prime):
    """The chains of subgroups whose sizes are powers of the prime other than 1: the even ones less the odd ones."""
    need_group(group)
    need_prime(prime)
    lattice = group.lattice
    # Behind each first subgroup of a chain there is nothing, or a chain that begins above it.
    sums = {}
    for place in range(len(lattice.bodies) - 1, 0, -1):
        size = len(lattice.bodies[place])
        if part_at(prime, size) == size:
            above = [sums[upper] for upper in sums if is_within(lattice, place, upper)]
            sums[place] = 1 - sum(above)
    return sum([sums[place] for place in sums])
