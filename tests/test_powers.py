"""[0.14] and [11.1] to [11.6]: up powers, maps and lots."""

import unittest
from itertools import combinations, islice, product
from math import comb

from helpers import (ALONE, Case, FIVE, MIRRORS, NO_GROUPS, NO_INDICES, NO_ROWS, NO_SETS, PAIRS, QUATER, SQUARE, THREE, TWENTY,
                     WRONG, back, first_of, times)
from movemarks.errors import InvalidGroup, InvalidKinds, InvalidNumber, InvalidOperation, InvalidRow, InvalidSet
from movemarks.lattice.subgroups import class_of, classes, cosets, small_group, subgroups
from movemarks.made import powers
from movemarks.made.changes import row_down, row_up, set_down
from movemarks.made.powers import (each_lot, lots_all_row, lots_row, lots_set, maps_row, maps_set, part_sizes, row_up_power,
                                   up_power_set)
from movemarks.made.sums import double_cosets, row_plus, row_times
from movemarks.mark.marks import kinds_of, marks_of
from movemarks.move.groups import Group
from movemarks.point.sets import MovedSet

LONG = 10 ** 60 - 1
SWAP, FLIPS, UNIT = Group(3, ((1, 0, 2),)), Group(3, ((0, 2, 1),)), Group(3, ())
NATURAL = MovedSet.places_of(THREE)
# THREE with other makers, the unit and a repeat among them.
THREE_ANEW = Group(3, ((0, 2, 1), (0, 1, 2), (2, 0, 1), (0, 2, 1)))
SOME = (THREE, SQUARE, PAIRS, QUATER, TWENTY, ALONE, MIRRORS, Group.even(4))
EMPTY = MovedSet(THREE, 0, ((), ()))


def pairs():
    """Groups, each with some groups that lie in it."""
    for group in SOME + (FIVE, Group.every(4)):
        told = subgroups(group)
        for one in told[:1] + told[1::1 + len(told) // 7] + told[-1:]:
            yield group, small_group(group, one)
    yield THREE, THREE_ANEW
    yield SQUARE, Group(4, ((1, 2, 3, 0), (0, 1, 2, 3)))


def set_kinds(group, most):
    """Kinds of sets of at most so many points."""
    first = classes(group)
    yield (0,) * len(first)
    for at, one in enumerate(first):
        for many in range(1, 4):
            if many * group.order // len(one) <= most:
                yield (0,) * at + (many,) + (0,) * (len(first) - at - 1)
                if many * group.order // len(one) + 1 <= most and at + 1 < len(first):
                    yield (0,) * at + (many,) + (0,) * (len(first) - at - 2) + (1,)


def parts_under(moved, moves):
    """The parts that a set has under some moves, told anew."""
    return {tuple(sorted({moved.led(move, point) for move in moves})) for point in range(moved.size)}


class Sizes(Case):

    def test_part_sizes(self):
        for group in SOME + (FIVE,):
            for kinds in set_kinds(group, 20):
                moved = MovedSet.of_kinds(group, kinds)
                for index, first in enumerate(classes(group)):
                    sizes = [len(part) for part in parts_under(moved, first)]
                    told = part_sizes(group, kinds, index)
                    self.assertEqual(told, {size: sizes.count(size) for size in sizes})
                    self.assertEqual(list(told), sorted(told))
        self.assertEqual(part_sizes(THREE, (LONG, 0, 0, 1), 2), {1: 1, 3: 2 * LONG})
        self.assertEqual(part_sizes(THREE, (0, LONG, 0, LONG), 0), {1: 4 * LONG})
        changed = part_sizes(THREE, (0, 1, 0, 0), 1)
        changed[1] = 5
        self.assertEqual(part_sizes(THREE, (0, 1, 0, 0), 1), {1: 1, 2: 1})
        self.assertEqual((part_sizes(ALONE, (0,), 0), part_sizes(THREE, (0,) * 4, 3)), ({}, {}))


class UpPowers(Case):

    def test_rows(self):
        for group, small in pairs():
            many = len(classes(small))
            for row in (tuple(range(2, many + 2)), tuple(3 - at * at for at in range(many)), (0,) * many, (-1,) * many):
                right = []
                for first in classes(group):
                    member = 1
                    for move in double_cosets(group, first, small.moves):
                        turned = [times(times(back(move), still), move) for still in first]
                        member *= row[class_of(small, tuple(sorted(still for still in turned if still in small)))]
                    right.append(member)
                self.assertEqual(row_up_power(group, small, row), tuple(right))

    def test_mark_rows_lead_to_mark_rows(self):
        for group, small in pairs():
            many = len(classes(small))
            for at in range(many):
                kinds = tuple((at * other + other) % 4 - 1 for other in range(many))
                row = row_up_power(group, small, marks_of(small, kinds))
                if max(map(abs, row)) <= LONG:
                    self.assertIsNotNone(kinds_of(group, row))

    def test_sets(self):
        for group, small in pairs():
            length = group.order // small.order
            for kinds in set_kinds(small, 60):
                moved = MovedSet.of_kinds(small, kinds)
                if moved.size ** length <= 60:
                    power = up_power_set(moved, group)
                    self.assertEqual((power.size, power.group.makers), (moved.size ** length, group.makers))
                    self.assertEqual(power.marks, row_up_power(group, small, moved.marks))
                    self.check_points(moved, small, group, power)
                else:
                    self.assert_too_many(60, up_power_set, moved, group)

    def check_points(self, moved, small, group, power):
        """A move leads p to q if q at j is what s makes of p at i, whenever g x_i is x_j s."""
        first = [coset[0] for coset in cosets(group, small.moves)]
        tuples = list(product(range(moved.size), repeat=len(first)))
        for move in group.moves[::1 + group.order // 6]:
            for number, point in enumerate(tuples):
                led = [None] * len(first)
                for at, least in enumerate(first):
                    found = times(move, least)
                    target = next(place for place, other in enumerate(first) if times(back(other), found) in small)
                    led[target] = moved.led(times(back(first[target]), found), point[at])
                self.assertEqual(tuples[power.led(move, number)], tuple(led))

    def test_edges(self):
        self.assertEqual(up_power_set(MovedSet(SWAP, 0, ((),)), THREE).size, 0)
        self.assertEqual(up_power_set(MovedSet.of_kinds(UNIT, (1,)), THREE).size, 1)
        self.assertEqual(up_power_set(MovedSet.of_kinds(Group(5, ()), (1,)), Group.every(5)).size, 1)
        self.assert_too_many(60, up_power_set, MovedSet.of_kinds(Group(5, ()), (2,)), Group.every(5))
        self.assertEqual(up_power_set(MovedSet.of_kinds(THREE, (10, 0, 0, 0)), THREE).size, 60)
        self.assertTrue(up_power_set(NATURAL, THREE) == NATURAL)
        # Seven and eight points, by themselves.
        turns = Group(3, ((1, 2, 0),))
        self.assertEqual(up_power_set(MovedSet.of_kinds(turns, (2, 1)), THREE).size, 49)
        self.assert_too_many(60, up_power_set, MovedSet.of_kinds(turns, (2, 2)), THREE)
        self.assertEqual(row_up_power(THREE, UNIT, (LONG,)), (LONG ** 6, LONG ** 3, LONG ** 2, LONG))
        self.assertEqual(row_up_power(ALONE, ALONE, (-7,)), (-7,))
        self.assertEqual(row_up_power(THREE, THREE_ANEW, (9, 8, -7, LONG)), (9, 8, -7, LONG))

    def test_products_and_two_steps(self):
        low, middle, group = Group(4, ((1, 0, 3, 2),)), Group.even(4), Group.every(4)
        for one in product(range(-1, 3), repeat=2):
            self.assertEqual(row_up_power(group, middle, row_up_power(middle, low, one)), row_up_power(group, low, one))
            for other in product(range(-1, 3), repeat=2):
                self.assertEqual(row_up_power(group, low, row_times(low, one, other)),
                                 row_times(group, row_up_power(group, low, one), row_up_power(group, low, other)))

    def test_of_what_is_led_down(self):
        # The maps from the cosets of S.
        for group, small in pairs():
            many = len(classes(group))
            if group.order // small.order <= 60:
                point = tuple(int(class_of(group, small.moves) == at) for at in range(many))
                for row in (tuple(range(1, many + 1)), tuple(2 - at for at in range(many))):
                    self.assertEqual(row_up_power(group, small, row_down(group, small, row)), maps_row(group, row, point))


class Maps(Case):

    def test_rows(self):
        for group in SOME:
            many = len(classes(group))
            for kinds in list(set_kinds(group, 12))[::3]:
                moved = MovedSet.of_kinds(group, kinds)
                for row in (tuple(range(2, many + 2)), tuple(3 - at * at for at in range(many)), (0,) * many):
                    right = []
                    for first in classes(group):
                        member = 1
                        for part in parts_under(moved, first):
                            member *= row[class_of(group, tuple(move for move in first if move in moved.stabilizer(part[0])))]
                        right.append(member)
                    self.assertEqual(maps_row(group, row, kinds), tuple(right))

    def test_sets(self):
        for group in (THREE, SQUARE, PAIRS, ALONE, Group.even(4)):
            for kinds in set_kinds(group, 6):
                for other in set_kinds(group, 6):
                    one, two = MovedSet.of_kinds(group, kinds), MovedSet.of_kinds(group, other)
                    if one.size ** two.size <= 60:
                        made = maps_set(one, two)
                        self.assertEqual((made.size, made.marks), (one.size ** two.size, maps_row(group, one.marks, other)))
                        self.check_points(one, two, made)
                    else:
                        self.assert_too_many(60, maps_set, one, two)

    def check_points(self, one, other, made):
        """A move leads f to what leads y to what the move makes of f at the point that the move leads to y."""
        tuples = list(product(range(one.size), repeat=other.size))
        for move in one.group.moves[::2]:
            for number, image in enumerate(tuples):
                led = tuple(one.led(move, image[other.led(back(move), point)]) for point in range(other.size))
                self.assertEqual(tuples[made.led(move, number)], led)

    def test_mark_rows_lead_to_mark_rows(self):
        for group in SOME:
            for kinds in list(set_kinds(group, 12))[::2]:
                for other in list(set_kinds(group, 24))[::5]:
                    self.assertIsNotNone(kinds_of(group, maps_row(group, marks_of(group, tuple(-many for many in other)), kinds)))

    def test_sums_and_products(self):
        for one in set_kinds(THREE, 7):
            for other in set_kinds(THREE, 7):
                row = (9, 2, -3, 5)
                total = row_plus(THREE, one, other)
                self.assertEqual(maps_row(THREE, row, total), row_times(THREE, maps_row(THREE, row, one), maps_row(THREE, row, other)))
                both = row_times(THREE, row, marks_of(THREE, other))
                self.assertEqual(maps_row(THREE, both, one),
                                 row_times(THREE, maps_row(THREE, row, one), maps_row(THREE, marks_of(THREE, other), one)))

    def test_edges(self):
        self.assertEqual(maps_row(THREE, (2, 3, 5, 7), (10, 0, 0, 0)), (2 ** 60, 2 ** 30, 2 ** 20, 2 ** 10))
        self.assertEqual(maps_row(THREE, (2, 3, 5, 7), (0, 0, 0, 60)), (2 ** 60, 3 ** 60, 5 ** 60, 7 ** 60))
        for kinds in ((10, 0, 0, 1), (0, 0, 0, 61), (0, 20, 0, 1), (LONG, 0, 0, 0), (0, 0, 0, LONG)):
            self.assert_too_many(60, maps_row, THREE, (2, 3, 5, 7), kinds)
        self.assertEqual(maps_row(THREE, (0, 0, 0, 0), (0, 0, 0, 0)), (1, 1, 1, 1))
        self.assertEqual(maps_row(THREE, (LONG, LONG, 0, LONG), (1, 0, 0, 0)), (LONG ** 6, LONG ** 3, LONG ** 2, LONG))
        self.assertEqual((maps_set(EMPTY, EMPTY).size, maps_set(EMPTY, NATURAL).size, maps_set(NATURAL, EMPTY).size), (1, 0, 1))
        point = MovedSet.of_kinds(THREE, (0, 0, 0, 1))
        self.assertEqual(maps_set(point, MovedSet.of_kinds(THREE, (10, 0, 0, 0))).size, 1)
        self.assertEqual(maps_set(MovedSet.of_kinds(THREE, (10, 0, 0, 0)), point).kinds, (10, 0, 0, 0))
        self.assert_too_many(60, maps_set, MovedSet.of_kinds(THREE, (0, 0, 0, 2)), MovedSet.of_kinds(THREE, (1, 0, 0, 0)))
        self.assertEqual(maps_set(MovedSet.of_kinds(THREE, (0, 0, 0, 2)), MovedSet.of_kinds(THREE, (0, 1, 1, 0))).size, 32)

    def test_other_makers(self):
        other = MovedSet.places_of(THREE_ANEW)
        for one, two in ((NATURAL, other), (other, NATURAL)):
            made = maps_set(one, two)
            self.assertEqual(made.group.makers, one.group.makers)
            self.assertTrue(made == maps_set(NATURAL, NATURAL))


class Lots(Case):

    def test_rows(self):
        for group in SOME:
            for kinds in set_kinds(group, 8):
                moved = MovedSet.of_kinds(group, kinds)
                whole = [0] * len(classes(group))
                for many in range(10):
                    right = []
                    for first in classes(group):
                        sizes = [len(part) for part in parts_under(moved, first)]
                        right.append(sum(sum(some) == many for length in range(len(sizes) + 1)
                                         for some in combinations(sizes, length)))
                    self.assertEqual(lots_row(group, kinds, many), tuple(right))
                    whole = [one + more for one, more in zip(whole, right)]
                self.assertEqual(lots_all_row(group, kinds), tuple(whole))
                two = (0,) * (len(kinds) - 1) + (2,)
                self.assertEqual(lots_all_row(group, kinds), maps_row(group, marks_of(group, two), kinds))

    def test_mark_rows(self):
        for group in SOME + (FIVE,):
            for kinds in list(set_kinds(group, 60))[::3]:
                for many in (0, 1, 3, 5):
                    self.assertIsNotNone(kinds_of(group, lots_row(group, kinds, many)))

    def test_great_numbers(self):
        self.assertEqual(lots_row(THREE, (0, 0, 0, LONG), 60), (comb(LONG, 60),) * 4)
        self.assertEqual(lots_row(THREE, (LONG, 0, 0, 0), 60), (comb(6 * LONG, 60), comb(3 * LONG, 30), comb(2 * LONG, 20), comb(LONG, 10)))
        self.assertEqual(lots_row(THREE, (0, LONG, 0, LONG), 2)[1], comb(2 * LONG, 2) + LONG)
        self.assertEqual(lots_row(THREE, (100, 0, 0, 0), 59), (comb(600, 59), 0, 0, 0))
        self.assertEqual(lots_all_row(THREE, (100, 0, 0, 0)), (2 ** 600, 2 ** 300, 2 ** 200, 2 ** 100))
        self.assertEqual(lots_all_row(THREE, (0, 0, 0, 600)), (2 ** 600,) * 4)
        for kinds in ((100, 0, 0, 1), (0, 200, 0, 1), (0, 0, 0, 601), (LONG, 0, 0, 0)):
            self.assert_too_many(600, lots_all_row, THREE, kinds)
        self.assertEqual((lots_row(ALONE, (0,), 0), lots_row(ALONE, (0,), 1), lots_all_row(ALONE, (0,))), ((1,), (0,), (1,)))

    def test_sets(self):
        for group in SOME + (FIVE,):
            for kinds in set_kinds(group, 12):
                moved = MovedSet.of_kinds(group, kinds)
                for many in range(0, 14):
                    if comb(moved.size, many) > 60:
                        self.assert_too_many(60, lots_set, moved, many)
                        continue
                    lots = list(combinations(range(moved.size), many))
                    made = lots_set(moved, many)
                    self.assertEqual((made.size, made.group.makers, made.marks), (len(lots), group.makers, lots_row(group, kinds, many)))
                    for move in group.moves[::1 + group.order // 5]:
                        right = [lots.index(tuple(sorted(moved.led(move, point) for point in lot))) for lot in lots]
                        self.assertEqual([made.led(move, number) for number in range(made.size)], right)

    def test_each_lot(self):
        for size in range(0, 12):
            moved = MovedSet.of_kinds(THREE, (0, 0, 0, size))
            for many in range(0, 13):
                if comb(size, many) <= 600:
                    self.assertEqual(list(each_lot(moved, many)), list(combinations(range(size), many)))
        self.assertEqual(list(each_lot(EMPTY, 0)), [()])
        self.assertEqual(list(each_lot(EMPTY, 60)), [])

    def test_most_lots(self):
        def points(size):
            return MovedSet.of_kinds(THREE, (0, 0, 0, size))
        self.assertEqual((lots_set(points(60), 1).size, lots_set(points(60), 59).size, lots_set(points(60), 60).size), (60, 60, 1))
        self.assertEqual((lots_set(points(11), 2).size, lots_set(points(7), 60).size, lots_set(points(0), 0).size), (55, 0, 1))
        self.assert_too_many(60, lots_set, points(12), 2)
        self.assert_too_many(60, lots_set, points(60), 30)
        self.assertEqual(len(list(each_lot(points(35), 2))), 595)
        self.assert_too_many(600, first_of(each_lot), points(36), 2)
        self.assert_too_many(600, first_of(each_lot), points(60), 31)
        self.assertEqual(list(islice(each_lot(points(60), 59), 2)), [tuple(range(59)), tuple(range(58)) + (59,)])

    def test_lots_move_as_the_places(self):
        for group in (THREE, SQUARE, FIVE):
            moved = MovedSet.places_of(group)
            self.assertEqual(lots_set(moved, 1).actions, moved.actions)
            self.assertEqual(lots_set(moved, moved.size).kinds, (0,) * (len(classes(group)) - 1) + (1,))


class Wrong(Case):

    def test_wrong_arguments(self):
        groups, small, row = (InvalidGroup, NO_GROUPS), (InvalidGroup, NO_GROUPS), (InvalidRow, NO_ROWS)
        kinds = (InvalidKinds, NO_ROWS + ((-1, 0, 0, 0), (0, 0, 0, -LONG)))
        index, many = (InvalidNumber, NO_INDICES), (InvalidNumber, WRONG + (61, 10 ** 59, (1,), "1"))
        moved = (InvalidSet, NO_SETS)
        told = (0, 1, 0, LONG)
        self.assert_refused(part_sizes, (THREE, told, 3), groups, kinds, index)
        self.assert_refused(row_up_power, (THREE, THREE, told), groups, small, row)
        self.assert_refused(maps_row, (THREE, told, (0, 1, 0, 0)), groups, row, kinds)
        self.assert_refused(lots_row, (THREE, told, 60), groups, kinds, many)
        self.assert_refused(lots_all_row, (THREE, (0, 1, 0, 0)), groups, kinds)
        self.assert_refused(up_power_set, (NATURAL, THREE), moved, groups)
        self.assert_refused(maps_set, (NATURAL, NATURAL), moved, moved)
        for call in (lots_set, first_of(each_lot)):
            self.assert_refused(call, (NATURAL, 60), moved, many)

    def test_what_comes_then(self):
        # Too many points come behind wrong arguments.
        self.assert_raises(InvalidKinds, maps_row, THREE, (1, 2, 3, 4), (61, 0, 0, -1))
        self.assert_raises(InvalidRow, maps_row, THREE, (1, 2, 3), (61, 0, 0, 0))
        self.assert_kept(InvalidNumber, 61, lots_set, MovedSet.of_kinds(THREE, (0, 0, 0, 60)), 61)
        self.assert_kept(InvalidNumber, -1, first_of(each_lot), MovedSet.of_kinds(THREE, (0, 0, 0, 60)), -1)
        for group in (SQUARE, Group(4, ()), FLIPS, ALONE):
            self.assert_raises(InvalidOperation, up_power_set, MovedSet.of_kinds(THREE, (10, 0, 0, 0)), group)
            self.assert_raises(InvalidOperation, maps_set, NATURAL, MovedSet.places_of(group))
        self.assert_raises(InvalidOperation, maps_set, MovedSet.of_kinds(THREE, (1, 0, 0, 0)), MovedSet.of_kinds(FLIPS, (30, 0)))

    def test_groups_that_do_not_lie_within(self):
        for group in (SQUARE, PAIRS, Group(2, ()), Group(4, ()), ALONE):
            for row in ((1,), None, (0,) * 4, WRONG):
                self.assert_raises(InvalidOperation, row_up_power, THREE, group, row)
                self.assert_raises(InvalidGroup, row_up_power, (), group, row)
        self.assert_raises(InvalidOperation, row_up_power, SWAP, FLIPS, (1, 1))
        self.assert_raises(InvalidRow, row_up_power, THREE, SWAP, (1, 1, 1, 1))

    def test_constants(self):
        self.assertEqual((powers.MAX_POINTS, powers.MAX_LISTED, powers.MAX_MANY), (60, 600, 60))


class NotTrue(Case):

    def test_up_power_of_a_sum(self):
        self.assertNotEqual(row_up_power(THREE, SWAP, (4, 0)), row_plus(THREE, *(row_up_power(THREE, SWAP, (2, 0)),) * 2))

    def test_lots_of_two_that_stay(self):
        self.assertEqual((lots_row(THREE, (0, 1, 0, 0), 2)[1], len(NATURAL.still(classes(THREE)[1]))), (1, 1))
        self.assertEqual(comb(1, 2), 0)

    def test_up_power_is_not_what_is_led_up(self):
        self.assertNotEqual(row_up_power(THREE, SWAP, (2, 0)), row_up(THREE, SWAP, (2, 0)))
        self.assertEqual(set_down(NATURAL, SWAP).kinds, (1, 1))


if __name__ == "__main__":
    unittest.main()
