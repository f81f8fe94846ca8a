"""[0.9] and [4.1] to [4.4]: subgroups, classes, keepers and cosets."""

import unittest

from helpers import (ALONE, Case, FIVE, NO_GROUPS, NO_SUBGROUPS, PAIRS, QUATER, SQUARE, THREE, TWENTY, WRONG, classes_of,
                     made, many_turning, subgroups_of, times, turned_by)
from movemarks.errors import InvalidGroup, InvalidMove, InvalidOperation, InvalidSubgroup
from movemarks.lattice import subgroups as module
from movemarks.lattice.subgroups import (class_members, class_of, class_sizes, classes, cosets, each_flag, is_kept,
                                         is_subgroup, keeper, lies_table, made_by, made_together, maximal, meet_of,
                                         small_group, subgroups, turned)
from movemarks.move.groups import Group, beside

SMALL = (THREE, SQUARE, PAIRS, QUATER, TWENTY, ALONE, Group.even(4), Group.turning(12), Group.mirrors(6),
         many_turning(2, 2, 2))
GREAT = (FIVE, Group.every(4), Group.every(5), many_turning(4, 2, 3), beside(SQUARE, Group.turning(2)))
UNIT, FLIP = ((0, 1, 2),), ((0, 1, 2), (0, 2, 1))
TURNS = ((0, 1, 2), (1, 2, 0), (2, 0, 1))


class Told(Case):

    def test_constants(self):
        self.assertEqual((module.MAX_MADE_BY, module.MAX_MAKERS), (24, 6))

    def test_subgroups(self):
        for group in SMALL:
            self.assertEqual(subgroups(group), subgroups_of(group))
        self.assertEqual([len(subgroups(group)) for group in (THREE, SQUARE, PAIRS, FIVE)], [6, 10, 5, 59])

    def test_known_numbers(self):
        known = {5: (156, 19), 4: (30, 11), 3: (6, 4), 2: (2, 2), 1: (1, 1)}
        for number, (many, many_classes) in known.items():
            self.assertEqual(len(subgroups(Group.every(number))), many)
            self.assertEqual(len(classes(Group.every(number))), many_classes)
        self.assertEqual([len(subgroups(Group.turning(number))) for number in (1, 7, 12, 24)], [1, 2, 6, 8])
        self.assertEqual([len(subgroups(Group.mirrors(number))) for number in (3, 12, 24)], [6, 34, 68])
        # 2 ** 3 and 3 ** 3 moves: each subgroup is a class.
        self.assertEqual([class_sizes(many_turning(*(prime,) * 3)) for prime in (2, 3)],
                         [((1, 1),) + ((2, 1),) * 7 + ((4, 1),) * 7 + ((8, 1),),
                          ((1, 1),) + ((3, 1),) * 13 + ((9, 1),) * 13 + ((27, 1),)])

    def test_great_groups(self):
        for group in GREAT:
            told = subgroups(group)
            self.assertEqual(told, tuple(sorted(set(told), key=lambda one: (len(one), one))))
            for one in told[::7]:
                self.assertEqual(made(group.places, one), one)

    def test_classes(self):
        for group in SMALL:
            told = classes_of(group)
            self.assertEqual(classes(group), tuple(members[0] for members in told))
            self.assertEqual(class_sizes(group), tuple((len(members[0]), len(members)) for members in told))
            for index, members in enumerate(told):
                self.assertEqual(class_members(group, index), members)
                for one in members:
                    self.assertEqual(class_of(group, one), index)
            self.assertEqual((classes(group)[0], classes(group)[-1]), (group.moves[:1], group.moves))
        self.assertEqual(class_sizes(FIVE), ((1, 1), (2, 15), (3, 10), (4, 5), (5, 6), (6, 10), (10, 6), (12, 5), (60, 1)))

    def test_is_subgroup(self):
        for group in SMALL:
            for one in subgroups(group):
                self.assert_true(is_subgroup(group, one))
                self.assert_false(is_subgroup(group, list(one)))
        for value in NO_SUBGROUPS:
            self.assert_false(is_subgroup(THREE, value))
        self.assert_false(is_subgroup(ALONE, ((False,),)))
        self.assert_true(is_subgroup(ALONE, ((0,),)))

    def test_made_by(self):
        for group in SMALL:
            for one in group.moves:
                for other in group.moves[::2]:
                    self.assertEqual(made_by(group, (one, other, one)), made(group.places, (one, other)))
            self.assertEqual(made_by(group, ()), group.moves[:1])
            self.assertEqual(made_by(group, group.moves[-1:] * 24), made(group.places, group.moves[-1:]))
        self.assertEqual(made_by(FIVE, FIVE.makers), FIVE.moves)

    def test_wrong_makers(self):
        self.assert_raises(InvalidOperation, made_by, THREE, UNIT * 25)
        self.assert_raises(InvalidOperation, made_by, THREE, (None,) * 25)
        for moves in (None, [(0, 1, 2)], {}, "", 3, True, THREE, [], "x" * 24):
            self.assert_raises(InvalidOperation, made_by, THREE, moves)
        for moves in ((None,), ((0, 1, 2), (1, 0)), ((True, 0, 2),), (0, 1, 2), (UNIT,), ((0, 1, 2), [0, 1, 2])):
            self.assert_raises(InvalidMove, made_by, THREE, moves)
        self.assert_raises(InvalidMove, made_by, SQUARE, ((0, 1, 2, 3), (1, 0, 2, 3)))


class Within(Case):

    def test_meet_and_together(self):
        for group in SMALL + GREAT[:2]:
            told = subgroups(group)
            for one in told[::1 + len(told) // 12]:
                for other in told:
                    meet = tuple(move for move in one if move in other)
                    self.assertEqual(meet_of(group, one, other), meet)
                    self.assertEqual(made_together(group, one, other), made(group.places, one + other))

    def test_keeper(self):
        for group in SMALL:
            for one in subgroups(group):
                right = tuple(by for by in group.moves if turned_by(one, by) == one)
                self.assertEqual(keeper(group, one), right)
                self.assertIs(is_kept(group, one), right == group.moves)
                many = class_sizes(group)[class_of(group, one)][1]
                self.assertEqual(many * len(right), group.order)
        self.assertEqual([len(keeper(SQUARE, first)) for first in classes(SQUARE)], [8, 4, 4, 8, 8, 8, 8, 8])

    def test_turned(self):
        for group in SMALL:
            for one in subgroups(group):
                for by in group.moves[::3]:
                    self.assertEqual(turned(group, one, by), turned_by(one, by))
        self.assertEqual(turned(THREE, FLIP, (1, 2, 0)), ((0, 1, 2), (2, 1, 0)))

    def test_small_group(self):
        for group in SMALL + GREAT[:2]:
            for one in subgroups(group)[::2]:
                small = small_group(group, one)
                makers = []
                for move in one:
                    if move not in made(group.places, tuple(makers)):
                        makers.append(move)
                self.assertEqual((small.places, small.moves, small.makers), (group.places, one, tuple(makers)))
                self.assertIsInstance(small, Group)
        self.assertEqual(small_group(THREE, THREE.moves).makers, ((0, 2, 1), (1, 0, 2)))
        self.assertEqual(small_group(THREE, UNIT).makers, ())

    def test_small_group_with_too_many_classes(self):
        # The group has fewer classes than its subgroup of 16 moves, each of which is undone by itself.
        group = Group(8, ((1, 0, 3, 2, 4, 5, 6, 7), (2, 3, 0, 1, 4, 5, 6, 7), (0, 1, 2, 3, 5, 4, 7, 6),
                          (0, 1, 2, 3, 6, 7, 4, 5), (0, 2, 3, 1, 4, 6, 7, 5)))
        deep = next(one for one in subgroups(group) if len(one) == 16)
        self.assertLessEqual(len(classes(group)), 60)
        self.assert_too_many(60, small_group, group, deep)

    def test_lies_table(self):
        for group in SMALL + GREAT[:2]:
            told = [class_members(group, index) for index in range(len(classes(group)))]
            self.assertEqual(lies_table(group), tuple(
                tuple(sum(set(first[0]) <= set(one) for one in members) for members in told) for first in told))
        self.assertEqual(lies_table(THREE), ((1, 3, 1, 1), (0, 1, 0, 1), (0, 0, 1, 1), (0, 0, 0, 1)))

    def test_maximal(self):
        for group in SMALL:
            told = subgroups(group)
            for top in told:
                lower = [one for one in told if set(one) < set(top)]
                right = tuple(one for one in lower if not any(set(one) < set(other) for other in lower))
                self.assertEqual(maximal(group, top), right)
            self.assertEqual(maximal(group, told[0]), ())
        self.assertEqual([len(one) for one in maximal(SQUARE, SQUARE.moves)], [4, 4, 4])
        self.assertEqual(sorted(len(one) for one in maximal(FIVE, FIVE.moves)), [6] * 10 + [10] * 6 + [12] * 5)

    def test_maximal_in_powers_of_primes(self):
        for group in (SQUARE, QUATER, PAIRS, many_turning(4, 2), many_turning(3, 3)):
            for one in subgroups(group):
                small = small_group(group, one)
                for low in maximal(group, one):
                    self.assertIn(len(one) // len(low), (2, 3))
                    self.assert_true(is_kept(small, low))

    def test_cosets(self):
        for group in SMALL:
            for one in subgroups(group):
                right = {tuple(sorted(times(by, move) for move in one)) for by in group.moves}
                self.assertEqual(cosets(group, one), tuple(sorted(right)))
        self.assertEqual(cosets(THREE, FLIP), (((0, 1, 2), (0, 2, 1)), ((1, 0, 2), (1, 2, 0)), ((2, 0, 1), (2, 1, 0))))


class Flags(Case):

    def test_flags(self):
        for group in SMALL + (FIVE,):
            told = {one: place for place, one in enumerate(subgroups(group))}
            waiting, right = [(group.moves,)], []
            while waiting:
                flag = waiting.pop()
                right.extend([flag] if len(flag[0]) == 1 else [])
                waiting.extend((low,) + flag for low in maximal(group, flag[0]))
            found = list(each_flag(group))
            self.assertEqual(found, sorted(right, key=lambda flag: [told[one] for one in flag]))
        self.assertEqual((len(list(each_flag(THREE))), len(list(each_flag(SQUARE)))), (4, 7))
        self.assertEqual(list(each_flag(ALONE)), [(((0,),),)])

    def test_first_flag(self):
        flag = next(each_flag(Group.every(5)))
        self.assertEqual((len(flag[0]), len(flag[1]), len(flag[-1])), (1, 2, 120))

    def test_error_when_the_first_one_is_requested(self):
        for value in NO_GROUPS:
            flags = each_flag(value)
            self.assert_raises(InvalidGroup, next, flags)


class Wrong(Case):

    def test_wrong_groups(self):
        for value in NO_GROUPS:
            for call in (subgroups, classes, class_sizes, lies_table):
                self.assert_raises(InvalidGroup, call, value)
            for call in (class_of, class_members, made_by, is_subgroup, keeper, is_kept, small_group, maximal, cosets):
                for passed in (None, FLIP, (), 0):
                    self.assert_raises(InvalidGroup, call, value, passed)
            for call in (meet_of, made_together, turned):
                self.assert_raises(InvalidGroup, call, value, None, None)
                self.assert_raises(InvalidGroup, call, value, FLIP, UNIT)

    def test_wrong_subgroups(self):
        for value in NO_SUBGROUPS:
            for call in (class_of, keeper, is_kept, small_group, maximal, cosets):
                self.assert_raises(InvalidSubgroup, call, THREE, value)
            for call in (meet_of, made_together):
                self.assert_raises(InvalidSubgroup, call, THREE, value, FLIP)
                self.assert_raises(InvalidSubgroup, call, THREE, FLIP, value)
                self.assert_raises(InvalidSubgroup, call, THREE, value, value)
            for move in ((0, 1, 2), None, (0, 1)):
                self.assert_raises(InvalidSubgroup, turned, THREE, value, move)

    def test_wrong_moves(self):
        for move in WRONG + ((), (0, 1), (0, 1, 2, 3), (0, True, 2), [0, 1, 2], (0, 1, 1), FLIP, 0):
            self.assert_raises(InvalidMove, turned, THREE, FLIP, move)
        self.assert_raises(InvalidMove, turned, SQUARE, SQUARE.moves, (1, 0, 2, 3))

    def test_wrong_indices(self):
        for index in WRONG + (4, 100, (0,), "1", FLIP):
            self.assert_number(index, class_members, THREE, index)
        self.assertEqual(class_members(THREE, 3), (THREE.moves,))
        self.assertEqual(class_members(THREE, 0), (UNIT,))


class NotTrue(Case):

    def test_equally_many_moves(self):
        self.assertEqual([size for size, _ in class_sizes(SQUARE)].count(2), 3)

    def test_keeper_of_a_keeper(self):
        subgroup = made_by(SQUARE, ((0, 3, 2, 1),))
        kept = keeper(SQUARE, subgroup)
        self.assertEqual((len(kept), len(keeper(SQUARE, kept))), (4, 8))
        self.assert_true(is_kept(SQUARE, kept))
        self.assert_false(is_kept(SQUARE, subgroup))

    def test_sizes_of_subgroups(self):
        sizes = {size for size, _ in class_sizes(FIVE)}
        self.assertFalse(sizes & {15, 20, 30})


if __name__ == "__main__":
    unittest.main()
