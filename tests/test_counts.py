"""[18.1] to [18.6]: counts of patterns, of roots, and of subgroups."""

import unittest
from fractions import Fraction
from itertools import product
from math import comb, factorial, gcd

from helpers import (ALONE, Case, FIVE, MIRRORS, NO_GROUPS, NO_ROWS, PAIRS, QUATER, SQUARE, THREE, TWENTY, WRONG, double_group,
                     first_of, made, many_turning)
from movemarks.base.integers import prime_factors
from movemarks.count import counts
from movemarks.count.counts import (each_pattern_count, part_count, pattern_kinds, pattern_powers, pattern_row, patterns, roots_count,
                                    share_patterns, subgroup_counts, sylow_counts)
from movemarks.errors import InvalidGroup, InvalidKinds, InvalidNumber, InvalidOperation, InvalidRow
from movemarks.lattice.subgroups import class_of, classes, subgroups
from movemarks.made.powers import lots_all_row, lots_row, maps_row, maps_set
from movemarks.mark.marks import coset_row, kinds_of, mark_table, marks_of, part_sum
from movemarks.mark.rows import row_sum
from movemarks.move.groups import Group, beside
from movemarks.move.moves import power_of
from movemarks.point.sets import MovedSet

EVEN, EVERY, DOUBLE = Group.even(4), Group.every(4), double_group()
GROUPS = (THREE, SQUARE, PAIRS, QUATER, ALONE, Group.turning(12), EVEN, TWENTY, FIVE, EVERY, MIRRORS, Group.every(5), DOUBLE,
          many_turning(3, 3, 3), beside(FIVE, Group.turning(2)), Group.mirrors(15))
SETS = ((THREE, (0, 1, 0, 0)), (THREE, (0, 1, 1, 1)), (THREE, (1, 0, 0, 0)), (THREE, (0, 0, 0, 4)), (PAIRS, (0, 1, 1, 0, 1)), (PAIRS, (1, 0, 0, 0, 2)),
        (SQUARE, MovedSet.places_of(SQUARE).kinds), (EVEN, MovedSet.places_of(EVEN).kinds), (TWENTY, MovedSet.places_of(TWENTY).kinds),
        (FIVE, MovedSet.places_of(FIVE).kinds), (MIRRORS, MovedSet.places_of(MIRRORS).kinds), (ALONE, (3,)), (ALONE, (0,)), (THREE, (0, 0, 0, 0)))
# None of these is the kinds of a set with moves of THREE.
NO_KINDS = NO_ROWS + ((0, -1, 0, 0), (-1, 0, 0, 0), (0, 0, 0, -10 ** 59), (1, 1, 1, -1))
NO_COLOURS = WRONG + (101, 102, 10 ** 59, "2", (2,))
NO_ROOTS = WRONG + (0, 10 ** 30 + 1, 10 ** 59, "2", (2,))
NO_SHARES = tuple(value for value in WRONG if value != (0, 1, 2)) + (
    (), (1,), (2,), (4,), (1, 1), (2, 2), (3, 0, 1), (1, 1, 1, 0), (0, 0, 0, 3), (0, 0, 3, 0), (-1, 4), (4, -1), (5, -1, -1), (True, 2), (2, True),
    (3, False), [3], [2, 1], (None, 3), ("3",), ((3,),), (3, None), {0: 3}, "3", 3, (10 ** 60, 3 - 10 ** 60), (10 ** 59, 3 - 10 ** 59), (3, 0, 0, 0))


def whole(group, many):
    """The kinds of so many points that all moves leave."""
    return (0,) * (len(classes(group)) - 1) + (many,)


def all_patterns(moved, colours):
    return list(product(range(colours), repeat=moved.size))


def led(moved, move, pattern):
    """What a move makes of a pattern: each point has the colour of the point from which the move comes."""
    found = [None] * moved.size
    for point, colour in enumerate(pattern):
        found[moved.led(move, point)] = colour
    return tuple(found)


def unlike(moved, told):
    """The sets of alike patterns."""
    return {frozenset(led(moved, move, pattern) for move in moved.group.moves) for pattern in told}


def parts_under(moved, moves):
    """The parts into which some moves lead the points, told by going on until nothing new comes."""
    left, parts = set(range(moved.size)), []
    while left:
        part = {min(left)}
        more = part
        while more:
            more = {moved.led(move, point) for move in moves for point in part} - part
            part = part | more
        left -= part
        parts.append(part)
    return parts


class Parts(Case):

    def test_constants(self):
        self.assertEqual((counts.MAX_COLOURS, counts.MOST_SHARES, counts.MOST_SHARED), (100, 3, 24))

    def test_part_counts(self):
        # [18.1]
        for group in GROUPS:
            many = len(classes(group))
            at_moves = [class_of(group, made(group.places, (move,))) for move in group.moves]
            for seed in range(4):
                row = tuple((seed * at * at + 3 * at) % 11 - 4 for at in range(many))
                right = Fraction(sum(row[index] for index in at_moves), group.order)
                self.assertEqual(part_count(group, row), (right.numerator, right.denominator))
                self.assertEqual(part_count(group, row), part_sum(group, row))
                self.assertEqual(row_sum(group, row, 0)[0], right * group.order)
                kinds = tuple((seed * at + at) % 5 - 2 for at in range(many))
                self.assertEqual(part_count(group, marks_of(group, kinds)), (sum(kinds), 1))
        self.assertEqual(part_count(THREE, (10 ** 59, 0, 0, 0)), (10 ** 59 // 2, 3))


class Patterns(Case):

    def test_patterns_one_by_one(self):
        # [18.2]
        for group, kinds in SETS:
            moved = MovedSet.of_kinds(group, kinds)
            for colours in range(4):
                if colours ** moved.size > 800:
                    continue
                told = all_patterns(moved, colours)
                row = tuple(sum(all(led(moved, move, one) == one for move in first) for one in told) for first in classes(group))
                self.assertEqual(pattern_row(group, kinds, colours), row)
                self.assertEqual(pattern_kinds(group, kinds, colours), kinds_of(group, row))
                parts = unlike(moved, told)
                self.assertEqual(patterns(group, kinds, colours), len(parts))
                stabilizers = [tuple(move for move in group.moves if led(moved, move, min(part)) == min(part)) for part in parts]
                counted = [class_of(group, one) for one in stabilizers]
                right = tuple(counted.count(index) for index in range(len(row)))
                self.assertEqual(pattern_kinds(group, kinds, colours), right)

    def test_rows_by_parts(self):
        for group in GROUPS:
            for kinds in (whole(group, 3), (0,) * (len(classes(group)) - 2) + (1, 2) if group.order > 1 else (2,), MovedSet.places_of(group).kinds):
                moved = MovedSet.of_kinds(group, kinds)
                parts = [len(parts_under(moved, first)) for first in classes(group)]
                for colours in (0, 1, 2, 7, 100):
                    row = pattern_row(group, kinds, colours)
                    self.assertEqual(row, tuple(colours ** many for many in parts))
                    told = pattern_kinds(group, kinds, colours)
                    self.assertEqual(tuple(sum(mark * many for mark, many in zip(line, told)) for line in mark_table(group)), row)
                    self.assertEqual(patterns(group, kinds, colours), sum(told))
                self.assertEqual(pattern_row(group, kinds, 2), lots_all_row(group, kinds))
                self.assertEqual(pattern_row(group, kinds, 5), maps_row(group, (5,) * len(row), kinds))

    def test_powers(self):
        # [18.3]
        for group, kinds in SETS + tuple((group, MovedSet.places_of(group).kinds) for group in GROUPS):
            moved = MovedSet.of_kinds(group, kinds)
            parts = [len(parts_under(moved, made(group.places, (move,)))) for move in group.moves]
            told = pattern_powers(group, kinds)
            self.assertEqual(told, tuple((many, parts.count(many)) for many in sorted(set(parts))))
            for colours in (0, 1, 2, 5, 100):
                self.assertEqual(patterns(group, kinds, colours) * group.order, sum(many * colours ** power for power, many in told))
        self.assertEqual((pattern_powers(ALONE, (0,)), pattern_powers(THREE, (0, 0, 0, 0))), (((0, 1),), ((0, 6),)))

    def test_numbers_of_colours(self):
        for group, kinds in SETS:
            size = MovedSet.of_kinds(group, kinds).size
            self.assertEqual((patterns(group, kinds, 0), patterns(group, kinds, 1)), (0 if size else 1, 1))
            self.assertEqual(set(pattern_row(group, kinds, 0)), {0 if size else 1})
            self.assertEqual(set(pattern_row(group, kinds, 1)), {1})
            self.assertEqual(pattern_kinds(group, kinds, 1), whole(group, 1))
            told = list(each_pattern_count(group, kinds))
            self.assertEqual(told, [patterns(group, kinds, colours) for colours in range(101)])
        self.assertEqual(patterns(ALONE, (60,), 100), 100 ** 60)
        self.assertEqual(pattern_kinds(ALONE, (60,), 100), (100 ** 60,))
        self.assertEqual((patterns(Group.turning(5), (1, 0), 10), patterns(Group.turning(24), whole(Group.turning(24), 0), 0)), (20008, 1))
        self.assertEqual((pattern_row(THREE, (0, 0, 0, 0), 0), pattern_kinds(THREE, (0, 0, 0, 0), 0)), ((1, 1, 1, 1), (0, 0, 0, 1)))

    def test_sixty_and_sixty_one_points(self):
        for group, right, wrong in ((THREE, (10, 0, 0, 0), (10, 0, 0, 1)), (THREE, (0, 0, 0, 60), (0, 0, 0, 61)), (ALONE, (60,), (61,)),
                                    (FIVE, (1,) + (0,) * 8, (1,) + (0,) * 7 + (1,)), (THREE, (0, 0, 30, 0), (0, 1, 29, 0)),
                                    (THREE, (0, 0, 0, 60), (10 ** 59, 0, 0, 0))):
            self.assertEqual(patterns(group, right, 2), sum(pattern_kinds(group, right, 2)))
            self.assertEqual(len(list(each_pattern_count(group, right))), 101)
            self.assertEqual(sum(many for _, many in pattern_powers(group, right)), group.order)
            for call in (patterns, pattern_row, pattern_kinds):
                self.assert_too_many(60, call, group, wrong, 100)
                self.assert_number(101, call, group, wrong, 101)
                self.assert_number(True, call, group, wrong, True)
            self.assert_too_many(60, pattern_powers, group, wrong)
            self.assert_too_many(60, first_of(each_pattern_count), group, wrong)

    def test_maps_to_points_that_stay(self):
        for colours in range(4):
            maps = maps_set(MovedSet.of_kinds(THREE, (0, 0, 0, colours)), MovedSet.places_of(THREE))
            self.assertEqual((pattern_row(THREE, (0, 1, 0, 0), colours), pattern_kinds(THREE, (0, 1, 0, 0), colours)), (maps.marks, maps.kinds))


class Shares(Case):

    def test_shares_one_by_one(self):
        for group, kinds in SETS:
            moved = MovedSet.of_kinds(group, kinds)
            size = moved.size
            for length in (1, 2, 3):
                for shares in product(range(size + 1), repeat=length):
                    if sum(shares) == size and 3 ** size < 800:
                        told = [one for one in all_patterns(moved, length) if all(one.count(at) == share for at, share in enumerate(shares))]
                        self.assertEqual(share_patterns(group, kinds, shares), len(unlike(moved, told)))

    def test_sums(self):
        for group, kinds in SETS + ((FIVE, MovedSet.of_cosets(FIVE, made(5, ((1, 2, 3, 4, 0),))).kinds), (EVEN, (1, 0, 0, 0, 0))):
            size = MovedSet.of_kinds(group, kinds).size
            two = [share_patterns(group, kinds, (one, size - one)) for one in range(size + 1)]
            three = [share_patterns(group, kinds, (one, other, size - one - other)) for one in range(size + 1) for other in range(size + 1 - one)]
            self.assertEqual((sum(two), sum(three)), (patterns(group, kinds, 2), patterns(group, kinds, 3)))
            self.assertEqual(two, two[::-1])
            self.assertEqual(share_patterns(group, kinds, (size,)), 1)
            self.assertEqual(two, [sum(kinds_of(group, lots_row(group, kinds, one))) for one in range(size + 1)])
            self.assertEqual(share_patterns(group, kinds, (0, size, 0)), 1)

    def test_24_and_25_points(self):
        self.assertEqual(share_patterns(ALONE, (24,), (8, 8, 8)), factorial(24) // factorial(8) ** 3)
        self.assertEqual(share_patterns(THREE, (0, 0, 0, 24), (12, 12)), comb(24, 12))
        self.assertEqual(share_patterns(THREE, (4, 0, 0, 0), (24,)), 1)
        self.assertEqual(share_patterns(Group.turning(24), (1,) + (0,) * 7, (1, 1, 22)), 23)
        self.assertEqual(share_patterns(Group.turning(24), (1,) + (0,) * 7, (12, 12)), share_patterns(Group.turning(24), (1,) + (0,) * 7, (12, 0, 12)))
        for group, kinds, points in ((ALONE, (25,), 25), (THREE, (4, 0, 0, 1), 25), (FIVE, (1,) + (0,) * 8, 60), (THREE, (0, 0, 0, 61), 61),
                                     (ALONE, (10 ** 59,), 10 ** 59)):
            self.assert_too_many(24, share_patterns, group, kinds, (points,))
            self.assert_too_many(24, share_patterns, group, kinds, (points - 1, 0, 1))
            for shares in ((points - 1,), (points + 1,), (points, 1), (24,), (points, 0, 0, 0), (), (points + 1, -1), [points], None):
                self.assert_raises(InvalidOperation, share_patterns, group, kinds, shares)

    def test_sets_without_points(self):
        for shares in ((0,), (0, 0), (0, 0, 0)):
            self.assertEqual((share_patterns(THREE, (0, 0, 0, 0), shares), share_patterns(ALONE, (0,), shares)), (1, 1))
        for shares in ((), (0, 0, 0, 0), (1,), (1, -1), (False,)):
            self.assert_raises(InvalidOperation, share_patterns, THREE, (0, 0, 0, 0), shares)


class Roots(Case):

    def test_roots(self):
        # [18.4]
        for group in GROUPS:
            for number in list(range(1, 31)) + [60, 120, 360, 97, 10 ** 30, 10 ** 30 - 1, 2 ** 90, 3 ** 60]:
                unit = group.moves[0]
                self.assertEqual(roots_count(group, number), sum(power_of(move, number) == unit for move in group.moves))
                self.assertEqual(roots_count(group, number) % gcd(number, group.order), 0)
            self.assertEqual((roots_count(group, 1), roots_count(group, group.order)), (1, group.order))
        self.assertEqual((roots_count(FIVE, 10 ** 30), roots_count(FIVE, 1), roots_count(ALONE, 10 ** 30)), (40, 1, 1))


class Subgroups(Case):

    def test_counts(self):
        for group in GROUPS:
            sizes = [len(one) for one in subgroups(group)]
            told = subgroup_counts(group)
            self.assertEqual(told, {size: sizes.count(size) for size in sizes})
            self.assertEqual(list(told), sorted(told))
        self.assertEqual((subgroup_counts(ALONE), sylow_counts(ALONE)), ({1: 1}, {}))

    def test_greatest_powers(self):
        # [18.5]
        for group in GROUPS:
            told, counted = sylow_counts(group), subgroup_counts(group)
            self.assertEqual(list(told), list(prime_factors(group.order)))
            for prime, often in prime_factors(group.order).items():
                for many in range(1, often + 1):
                    self.assertEqual(counted[prime ** many] % prime, 1)
                self.assertEqual(told[prime], counted[prime ** often])
                self.assertEqual(group.order % told[prime], 0)
                self.assertEqual(len({class_of(group, one) for one in subgroups(group) if len(one) == prime ** often}), 1)
        self.assertEqual((sylow_counts(THREE), sylow_counts(EVERY), sylow_counts(Group.turning(12))), ({2: 3, 3: 1}, {2: 3, 3: 4}, {2: 1, 3: 1}))


class Wrong(Case):

    def test_wrong_arguments(self):
        groups, kinds, colours = (InvalidGroup, NO_GROUPS), (InvalidKinds, NO_KINDS), (InvalidNumber, NO_COLOURS)
        self.assert_refused(part_count, (THREE, (0, -1, 10 ** 59, 2)), groups, (InvalidRow, NO_ROWS))
        for call in (patterns, pattern_row, pattern_kinds):
            self.assert_refused(call, (THREE, (0, 1, 0, 0), 100), groups, kinds, colours)
        self.assert_refused(pattern_powers, (THREE, (0, 1, 0, 0)), groups, kinds)
        self.assert_refused(first_of(each_pattern_count), (THREE, (0, 1, 0, 0)), groups, kinds)
        self.assert_refused(share_patterns, (THREE, (0, 1, 0, 0), (2, 1)), groups, kinds, (InvalidOperation, NO_SHARES))
        self.assert_refused(roots_count, (THREE, 10 ** 30), groups, (InvalidNumber, NO_ROOTS))
        self.assert_refused(subgroup_counts, (THREE,), groups)
        self.assert_refused(sylow_counts, (THREE,), groups)

    def test_errors_when_the_first_element_is_requested(self):
        for passed, error in (((None, None), InvalidGroup), ((THREE, (0, -1, 0, 0)), InvalidKinds)):
            told = each_pattern_count(*passed)
            self.assert_raises(error, next, told)


class NotTrue(Case):

    def test_equally_many_patterns(self):
        one, other = (0, 1, 1, 1, 0), (1, 0, 0, 0, 2)
        self.assertEqual(list(each_pattern_count(PAIRS, one)), list(each_pattern_count(PAIRS, other)))
        self.assertNotEqual(MovedSet.of_kinds(PAIRS, one).kinds, MovedSet.of_kinds(PAIRS, other).kinds)

    def test_as_many_roots_as_the_divisor(self):
        self.assertEqual(roots_count(THREE, 2), 4)

    def test_a_subgroup_of_each_size(self):
        self.assertNotIn(6, subgroup_counts(EVEN))
        self.assertEqual(coset_row(EVEN, 0)[0] % 6, 0)


if __name__ == "__main__":
    unittest.main()
