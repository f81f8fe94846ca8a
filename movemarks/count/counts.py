"""Counts of patterns with colours, of roots, and of subgroups."""

from movemarks.base.integers import is_integer, need_between, prime_factors, raised
from movemarks.errors import InvalidOperation, TooMany
from movemarks.lattice.needs import need_set_kinds
from movemarks.made.powers import sizes_under
from movemarks.mark.marks import class_by_move, kinds_of_row, part_sum, parts_by_class, row_of_kinds
from movemarks.move.groups import need_group
from movemarks.move.products import orders_of
from movemarks.point.sets import need_points, points_of

MAX_COLOURS = 100
MOST_SHARES = 3
MOST_SHARED = 24

_MOST_ROOTS = 10 ** 30


def part_count(group, row):
    """The sum of the row at the subgroups that all moves make, divided by the number of the moves: a ratio."""
    return part_sum(group, row)


def _need_coloured(group, kinds, colours):
    need_group(group)
    need_set_kinds(group, kinds)
    need_between(colours, 0, MAX_COLOURS)
    need_points(points_of(group.lattice, kinds))


def _parts_of(group, kinds):
    return parts_by_class(group, row_of_kinds(group, kinds))


def _pattern_row(group, kinds, colours):
    return tuple([raised(colours, many) for many in _parts_of(group, kinds)])


def _pattern_powers(group, kinds):
    parts = _parts_of(group, kinds)
    counts = {}
    for index in class_by_move(group.lattice):
        counts[parts[index]] = counts.get(parts[index], 0) + 1
    return [(many, counts[many]) for many in sorted(counts)]


def _patterns(group, powers, colours):
    """The number of unlike patterns, told by the pairs of `pattern_powers`."""
    return sum([moves * raised(colours, many) for many, moves in powers]) // group.order


def patterns(group, kinds, colours):
    """The number of unlike patterns of a set with the kinds."""
    _need_coloured(group, kinds, colours)
    return _patterns(group, _pattern_powers(group, kinds), colours)


def pattern_row(group, kinds, colours):
    """The mark row of the patterns of a set with the kinds."""
    _need_coloured(group, kinds, colours)
    return _pattern_row(group, kinds, colours)


def pattern_kinds(group, kinds, colours):
    """The kinds of the patterns of a set with the kinds."""
    _need_coloured(group, kinds, colours)
    return kinds_of_row(group, _pattern_row(group, kinds, colours))


def _need_counted(group, kinds):
    need_group(group)
    need_set_kinds(group, kinds)
    need_points(points_of(group.lattice, kinds))


def pattern_powers(group, kinds):
    """Pairs of a number of parts and of the number of the moves under whose powers the set has so many."""
    _need_counted(group, kinds)
    return tuple(_pattern_powers(group, kinds))


def _need_shares(shares, points):
    if not isinstance(shares, tuple) or not 1 <= len(shares) <= MOST_SHARES:
        raise InvalidOperation("not a tuple of one to three integers")
    if not all([is_integer(share) and share >= 0 for share in shares]):
        raise InvalidOperation("a share is no integer of at least 0")
    if sum(shares) != points:
        raise InvalidOperation("the sum of the shares is not the number of the points")


def _one_part_coloured(ways, size):
    """The dict from what is left of the shares to the number of ways, when one more part is given a colour."""
    found = {}
    for left in ways:
        for colour, share in enumerate(left):
            if share >= size:
                fewer = left[:colour] + (share - size,) + left[colour + 1:]
                found[fewer] = found.get(fewer, 0) + ways[left]
    return found


def _share_ways(sizes, shares):
    """In how many ways parts, told by the dict of their sizes, are given colours so that all shares are used up."""
    ways = {shares: 1}
    for size in sizes:
        for _ in range(sizes[size]):
            ways = _one_part_coloured(ways, size)
    return sum([ways[left] for left in ways])


def share_patterns(group, kinds, shares):
    """The number of unlike patterns that give each colour to so many points as its share tells."""
    need_group(group)
    need_set_kinds(group, kinds)
    points = points_of(group.lattice, kinds)
    _need_shares(shares, points)
    if points > MOST_SHARED:
        raise TooMany(MOST_SHARED)
    made = class_by_move(group.lattice)
    ways = {index: _share_ways(sizes_under(group.lattice, index, kinds), shares) for index in sorted(set(made))}
    return sum([ways[index] for index in made]) // group.order


def each_pattern_count(group, kinds):
    """The numbers of unlike patterns with 0, 1, 2, .. up to 100 colours."""
    _need_counted(group, kinds)
    powers = _pattern_powers(group, kinds)
    for colours in range(MAX_COLOURS + 1):
        yield _patterns(group, powers, colours)


def roots_count(group, number):
    """The number of the moves whose power with the exponent is the unit."""
    need_group(group)
    need_between(number, 1, _MOST_ROOTS)
    return len([order for order in orders_of(group.lattice.table) if number % order == 0])


def _subgroup_counts(lattice):
    counts = {}
    # The subgroups stand by their sizes, so these ascend.
    for body in lattice.bodies:
        counts[len(body)] = counts.get(len(body), 0) + 1
    return counts


def subgroup_counts(group):
    """The dict from the sizes of subgroups to how many have this size."""
    need_group(group)
    return _subgroup_counts(group.lattice)


def sylow_counts(group):
    """The dict from the primes that divide the order to how many subgroups have their whole part of it."""
    need_group(group)
    counts = _subgroup_counts(group.lattice)
    factors = prime_factors(group.order)
    return {prime: counts[raised(prime, factors[prime])] for prime in factors}
