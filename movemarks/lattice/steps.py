"""Steps of commutators, perfect subgroups, and cores of subgroups at primes."""

from movemarks.base.integers import is_prime, need_prime
from movemarks.lattice.needs import need_subgroup, place_of
from movemarks.lattice.subgroups import is_within, told_at
from movemarks.move.groups import need_group
from movemarks.move.products import mask_of, orders_of, turned_body

CHAIN = "chain"
PERFECT = "perfect"


def _commutator_place(lattice, place):
    table, back, body = lattice.table, lattice.back, lattice.bodies[place]
    made = [table[table[one][other]][table[back[one]][back[other]]] for one in body for other in body]
    return lattice.least_place(mask_of(made))


def _level_places(lattice, place):
    levels_found = [place]
    lower = _commutator_place(lattice, place)
    while lower != levels_found[-1]:
        levels_found.append(lower)
        lower = _commutator_place(lattice, lower)
    return levels_found


def _last_place(lattice, place):
    return _level_places(lattice, place)[-1]


def commutators(group, subgroup):
    """The subgroup that all commutators of moves of the subgroup make."""
    need_group(group)
    return told_at(group, _commutator_place(group.lattice, need_subgroup(group, subgroup)))


def last_step(group, subgroup):
    """The last level of the subgroup: the greatest perfect subgroup in it."""
    need_group(group)
    return told_at(group, _last_place(group.lattice, need_subgroup(group, subgroup)))


def levels(group, subgroup):
    """The tuple of the subgroup, its commutators, the commutators of these, and so on."""
    need_group(group)
    places = _level_places(group.lattice, need_subgroup(group, subgroup))
    return tuple([told_at(group, place) for place in places])


def _is_perfect_at(lattice, place):
    return _commutator_place(lattice, place) == place


def is_perfect(group, subgroup):
    """Whether the subgroup is its own commutators."""
    need_group(group)
    return _is_perfect_at(group.lattice, need_subgroup(group, subgroup))


def does_come_down(group, subgroup):
    """Whether the last step of the subgroup is the unit alone."""
    need_group(group)
    return _last_place(group.lattice, need_subgroup(group, subgroup)) == 0


def perfect_classes(group):
    """The ascending tuple of the indices of the classes of perfect subgroups."""
    need_group(group)
    families = group.lattice.families
    return tuple([index for index, family in enumerate(families) if _is_perfect_at(group.lattice, family[0])])


def step_classes(group):
    """For each class the index of the class of the last step of its first subgroup."""
    need_group(group)
    lattice = group.lattice
    return tuple([lattice.family_at[_last_place(lattice, family[0])] for family in lattice.families])


def _core_place(lattice, place, prime):
    orders = orders_of(lattice.table)
    return lattice.least_place(mask_of([move for move in lattice.bodies[place] if orders[move] % prime != 0]))


def core_at(group, subgroup, prime):
    """The subgroup that those moves of the subgroup make whose orders the prime does not divide."""
    need_group(group)
    place = need_subgroup(group, subgroup)
    need_prime(prime)
    return told_at(group, _core_place(group.lattice, place, prime))


def is_firm(group, subgroup, prime):
    """Whether the subgroup is its own core at the prime."""
    need_group(group)
    place = need_subgroup(group, subgroup)
    need_prime(prime)
    return _core_place(group.lattice, place, prime) == place


def firm_classes(group, prime):
    """The ascending tuple of the indices of the classes of subgroups that are firm at the prime."""
    need_group(group)
    need_prime(prime)
    families = group.lattice.families
    return tuple([index for index, family in enumerate(families)
                  if _core_place(group.lattice, family[0], prime) == family[0]])


def core_classes(group, prime):
    """For each class the index of the class of the core of its first subgroup at the prime."""
    need_group(group)
    need_prime(prime)
    lattice = group.lattice
    return tuple([lattice.family_at[_core_place(lattice, family[0], prime)] for family in lattice.families])


def _is_step(lattice, high, low):
    """Whether the subgroup at the place `low` lies in the one at `high` with prime index, and is kept by it."""
    body, lower = lattice.bodies[high], lattice.bodies[low]
    if not is_within(lattice, low, high) or not is_prime(len(body) // len(lower)):
        return False
    return all([turned_body(lattice.table, lattice.back, lower, by) == lower for by in body])


def _chain_places(lattice, place):
    """A chain from a subgroup that comes down to the unit alone."""
    chain = [place]
    while chain[-1] != 0:
        chain.append([low for low in range(chain[-1]) if _is_step(lattice, chain[-1], low)][0])
    return chain


def down_paper(group, subgroup):
    """A paper that shows that the subgroup comes down, or that it does not."""
    need_group(group)
    place = need_subgroup(group, subgroup)
    last = _last_place(group.lattice, place)
    if last != 0:
        return (PERFECT, told_at(group, last))
    return (CHAIN, tuple([told_at(group, low) for low in _chain_places(group.lattice, place)]))


def _is_chain(group, place, value):
    if not isinstance(value, tuple) or len(value) == 0:
        return False
    places = [place_of(group, member) for member in value]
    if any([low is None for low in places]) or places[0] != place or places[-1] != 0:
        return False
    return all([_is_step(group.lattice, high, low) for high, low in zip(places, places[1:])])


def is_down_paper(group, subgroup, value):
    """Whether the value is a right paper of `down_paper`."""
    need_group(group)
    place = need_subgroup(group, subgroup)
    if not isinstance(value, tuple) or len(value) != 2:
        return False
    if value[0] == CHAIN:
        return _is_chain(group, place, value[1])
    low = place_of(group, value[1])
    if value[0] != PERFECT or low is None or low == 0:
        return False
    return is_within(group.lattice, low, place) and _is_perfect_at(group.lattice, low)


def each_level(group):
    """Pairs of a class index and of the number of levels of its first subgroup, by indices."""
    need_group(group)
    for index, family in enumerate(group.lattice.families):
        yield index, len(_level_places(group.lattice, family[0]))
