"""[0.14] and [12.1] to [12.5]: quotients of a group by a kept subgroup."""

import unittest
from itertools import product

from helpers import (ALONE, Case, FIVE, MIRRORS, NO_GROUPS, NO_ROWS, NO_SETS, NO_SUBGROUPS, PAIRS, QUATER, SQUARE, THREE, TWENTY,
                     WRONG, cosets_of, double_group, many_turning, times)
from movemarks.errors import (InvalidGroup, InvalidKinds, InvalidMove, InvalidOperation, InvalidRow, InvalidSet, InvalidSubgroup)
from movemarks.lattice.subgroups import class_of, classes, is_kept, small_group, subgroups
from movemarks.made import quotients
from movemarks.made.quotients import (behind, image_classes, image_of, images_of, kinds_left, kinds_lifted, quotient_classes,
                                      quotient_group, row_left, row_lifted, set_left, set_lifted)
from movemarks.mark.marks import kinds_of, marks_of
from movemarks.mark.rows import is_mark_row
from movemarks.move.groups import Group, are_same
from movemarks.point.sets import MovedSet

LONG = 10 ** 60 - 1
UNIT, FLIP, TURNS = ((0, 1, 2),), ((0, 1, 2), (0, 2, 1)), ((0, 1, 2), (1, 2, 0), (2, 0, 1))
# The unit among the makers, and repeats.
ANEW = Group(4, ((0, 1, 2, 3), (2, 3, 0, 1), (2, 3, 0, 1), (1, 2, 3, 0)))
SOME = (THREE, SQUARE, PAIRS, QUATER, TWENTY, ALONE, MIRRORS, Group.even(4), Group.every(4), many_turning(2, 2, 2), ANEW,
        Group.turning(24), Group.mirrors(12))
EVERY, DOUBLE = Group.every(5), double_group()


def pairs():
    """Groups, each with subgroups that it keeps."""
    for group in SOME:
        kept = [one for one in subgroups(group) if is_kept(group, one) and group.order // len(one) <= 24]
        for one in kept[:2] + kept[2:-1:1 + len(kept) // 5] + kept[-1:]:
            yield group, one
    yield EVERY, EVERY.moves
    yield EVERY, FIVE.moves
    yield FIVE, FIVE.moves
    yield DOUBLE, DOUBLE.moves


def plain_image(group, subgroup, move):
    """The image of a move, told anew from the cosets."""
    told = cosets_of(group, subgroup)
    return tuple(told.index(tuple(sorted(times(move, member) for member in coset))) for coset in told)


def some_rows(group):
    many = len(classes(group))
    yield (0,) * many
    yield tuple(range(many))
    yield tuple(LONG - at for at in range(many))
    for at in range(0, many, 3):
        yield tuple((at * other * other + other) % 7 - 3 for other in range(many))


class Quotients(Case):

    def test_groups(self):
        for group, one in pairs():
            quotient = quotient_group(group, one)
            self.assertEqual((quotient.places, quotient.order), (group.order // len(one),) * 2)
            self.assertEqual(quotient.makers, tuple(plain_image(group, one, maker) for maker in group.makers))
            self.assertEqual(quotient.moves, tuple(sorted({image_of(group, one, move) for move in group.moves})))

    def test_images(self):
        for group, one in pairs():
            images = {move: image_of(group, one, move) for move in group.moves}
            for move in group.moves[::1 + group.order // 12]:
                self.assertEqual(images[move], plain_image(group, one, move))
                for other in group.moves[::1 + group.order // 5]:
                    self.assertEqual(images[times(move, other)], times(images[move], images[other]))
            unit = tuple(range(group.order // len(one)))
            self.assertEqual(tuple(move for move in group.moves if images[move] == unit), one)

    def test_known(self):
        self.assertTrue(are_same(quotient_group(Group.every(4), classes(Group.even(4))[3]), THREE))
        self.assertTrue(are_same(quotient_group(QUATER, subgroups(QUATER)[1]), PAIRS))
        self.assertEqual((quotient_group(THREE, THREE.moves).makers, quotient_group(ALONE, ALONE.moves).makers), (((0,), (0,)), ()))
        self.assertTrue(are_same(quotient_group(THREE, UNIT), THREE))
        self.assertEqual(quotient_group(Group.turning(24), Group.turning(24).moves[:1]).makers, Group.turning(24).makers)
        twice = ((0, 1, 2, 3), (2, 3, 0, 1))
        self.assertEqual(quotient_group(ANEW, twice).makers, ((0, 1), (0, 1), (0, 1), (1, 0)))

    def test_subgroups(self):
        for group, one in pairs():
            quotient = quotient_group(group, one)
            for other in subgroups(group)[::1 + len(subgroups(group)) // 9]:
                right = tuple(sorted({image_of(group, one, move) for move in other}))
                self.assertEqual(images_of(group, one, other), right)
                self.assertIn(right, subgroups(quotient))
            for small in subgroups(quotient)[::1 + len(subgroups(quotient)) // 9]:
                told = behind(group, one, small)
                self.assertEqual(told, tuple(move for move in group.moves if image_of(group, one, move) in small))
                self.assertLessEqual(set(one), set(told))
                self.assertEqual(images_of(group, one, told), small)

    def test_classes(self):
        for group, one in pairs():
            quotient = quotient_group(group, one)
            self.assertEqual(quotient_classes(group, one), tuple(class_of(group, behind(group, one, small)) for small in classes(quotient)))
            self.assertEqual(image_classes(group, one), tuple(class_of(quotient, images_of(group, one, first)) for first in classes(group)))
            led = image_classes(group, one)
            self.assertEqual([led[index] for index in quotient_classes(group, one)], list(range(len(classes(quotient)))))


class Led(Case):

    def test_rows(self):
        for group, one in pairs():
            quotient = quotient_group(group, one)
            for row in some_rows(group):
                right = tuple(row[class_of(group, behind(group, one, small))] for small in classes(quotient))
                self.assertEqual((row_left(group, one, row), kinds_left(group, one, row)), (right, right))
            for row in some_rows(quotient):
                right = tuple(row[class_of(quotient, images_of(group, one, first))] for first in classes(group))
                self.assertEqual(row_lifted(group, one, row), right)
                self.assertEqual(row_left(group, one, right), row)
                lifted = [0] * len(classes(group))
                for many, small in zip(row, classes(quotient)):
                    lifted[class_of(group, behind(group, one, small))] += many
                self.assertEqual(kinds_lifted(group, one, row), tuple(lifted))

    def test_kinds_and_rows_agree(self):
        for group, one in pairs():
            quotient = quotient_group(group, one)
            for kinds in list(some_rows(group))[3:]:
                self.assertEqual(marks_of(quotient, kinds_left(group, one, kinds)), row_left(group, one, marks_of(group, kinds)))
            for kinds in list(some_rows(quotient))[3:]:
                self.assertEqual(marks_of(group, kinds_lifted(group, one, kinds)), row_lifted(group, one, marks_of(quotient, kinds)))
                self.assertEqual(kinds_left(group, one, kinds_lifted(group, one, kinds)), kinds)
                self.assertIsNotNone(kinds_of(group, row_lifted(group, one, marks_of(quotient, kinds))))

    def test_sets_left(self):
        for group, one in pairs():
            quotient = quotient_group(group, one)
            for other in subgroups(group)[::1 + len(subgroups(group)) // 6]:
                if group.order // len(other) <= 56:
                    moved = MovedSet.of_cosets(group, other) + MovedSet.of_cosets(group, group.moves)
                    left = set_left(moved, one)
                    still = moved.still(one)
                    self.assertEqual((left.size, left.group.makers), (len(still), quotient.makers))
                    for move in group.moves[::1 + group.order // 6]:
                        image = image_of(group, one, move)
                        for number, point in enumerate(still):
                            self.assertEqual(still[left.led(image, number)], moved.led(move, point))
                    self.assertEqual((left.marks, left.kinds), (row_left(group, one, moved.marks), kinds_left(group, one, moved.kinds)))

    def test_sets_lifted(self):
        for group, one in pairs():
            quotient = quotient_group(group, one)
            # The same group with other makers.
            for anew in (quotient, small_group(quotient, quotient.moves)):
                for other in subgroups(quotient)[::1 + len(subgroups(quotient)) // 5]:
                    moved = MovedSet.of_cosets(anew, other)
                    lifted = set_lifted(group, one, moved)
                    self.assertEqual((lifted.size, lifted.group.makers), (moved.size, group.makers))
                    for move in group.moves[::1 + group.order // 6]:
                        image = image_of(group, one, move)
                        self.assertEqual([lifted.led(move, point) for point in range(moved.size)],
                                         [moved.led(image, point) for point in range(moved.size)])
                    self.assertEqual((lifted.marks, lifted.kinds),
                                     (row_lifted(group, one, moved.marks), kinds_lifted(group, one, moved.kinds)))
                    self.assertTrue(set_left(lifted, one) == moved)

    def test_without_points(self):
        self.assertEqual(set_left(MovedSet(THREE, 0, ((), ())), TURNS).size, 0)
        self.assertEqual(set_left(MovedSet.places_of(THREE), TURNS).actions, ((), ()))
        self.assertEqual(set_lifted(THREE, TURNS, MovedSet(quotient_group(THREE, TURNS), 0, ((), ()))).actions, ((), ()))
        self.assertTrue(set_left(MovedSet.places_of(THREE), UNIT).size == 3)


class Edges(Case):

    def test_cosets(self):
        self.assertEqual(quotient_group(Group.every(4), Group.every(4).moves[:1]).order, 24)
        self.assertEqual(quotient_group(Group.mirrors(24), self.half(Group.mirrors(24))).order, 24)
        # Groups with more than 24 cosets of a subgroup that they keep.
        for group in (FIVE, EVERY, many_turning(5, 5), DOUBLE, Group.mirrors(24)):
            unit = group.moves[:1]
            for call in (quotient_group, quotient_classes, image_classes):
                self.assert_too_many(24, call, group, unit)
            self.assert_too_many(24, image_of, group, unit, unit[0])
            self.assert_too_many(24, images_of, group, unit, group.moves)
            row = (0,) * len(classes(group))
            for call in (row_left, kinds_left):
                self.assert_too_many(24, call, group, unit, row)
            for passed in (None, row, ()):
                for call in (row_lifted, kinds_lifted, behind):
                    self.assert_too_many(24, call, group, unit, passed)
            self.assert_too_many(24, set_left, MovedSet.places_of(group), unit)
            self.assert_too_many(24, set_lifted, group, unit, MovedSet.places_of(group))
        # 25 cosets, and 24.
        self.assertEqual((many_turning(5, 5).order, Group.turning(24).order), (25, 24))

    def half(self, group):
        return next(one for one in subgroups(group) if len(one) == 2 and is_kept(group, one))

    def test_constant(self):
        self.assertEqual(quotients.MAX_COSETS, 24)


class Wrong(Case):

    def test_wrong_arguments(self):
        groups, within = (InvalidGroup, NO_GROUPS), (InvalidSubgroup, NO_SUBGROUPS)
        row, kinds, moved = (InvalidRow, NO_ROWS), (InvalidKinds, NO_ROWS), (InvalidSet, NO_SETS)
        for call in (quotient_group, quotient_classes, image_classes):
            self.assert_refused(call, (THREE, TURNS), groups, within)
        move = (InvalidMove, WRONG + ((0, 1), (0, True, 2), [0, 1, 2], (0, 1, 1), FLIP))
        self.assert_refused(image_of, (THREE, TURNS, (1, 0, 2)), groups, within, move)
        self.assert_refused(images_of, (THREE, TURNS, FLIP), groups, within, within)
        self.assert_refused(row_left, (THREE, TURNS, (LONG, 0, 0, 0)), groups, within, row)
        self.assert_refused(kinds_left, (THREE, TURNS, (LONG, 0, 0, 0)), groups, within, kinds)
        self.assert_refused(set_left, (MovedSet.places_of(THREE), TURNS), moved, within)
        lifted = MovedSet.places_of(quotient_group(THREE, TURNS))
        self.assert_refused(set_lifted, (THREE, TURNS, lifted), groups, within, moved)
        pair_rows = tuple(value for value in NO_ROWS if value != (10 ** 99, 10 ** 99)) + ((0, 0, 0, 0), (10 ** 99, 10 ** 99), (0, True))
        self.assert_refused(row_lifted, (THREE, TURNS, (LONG, -LONG)), groups, within, (InvalidRow, pair_rows))
        self.assert_refused(kinds_lifted, (THREE, TURNS, (LONG, -LONG)), groups, within, (InvalidKinds, pair_rows))
        small = (InvalidSubgroup, WRONG + ((), TURNS, ((1, 0),), ((0, 1), (1, 0), (1, 0)), ((False, True),), [(0, 1)], ((1, 0), (0, 1))))
        self.assert_refused(behind, (THREE, TURNS, ((0, 1), (1, 0))), groups, within, small)

    def test_not_kept(self):
        for call in (quotient_group, quotient_classes, image_classes):
            self.assert_raises(InvalidOperation, call, THREE, FLIP)
            # A class with two subgroups.
            self.assert_raises(InvalidOperation, call, SQUARE, ((0, 1, 2, 3), (0, 3, 2, 1)))
        self.assert_raises(InvalidOperation, set_left, MovedSet.places_of(THREE), FLIP)
        self.assert_raises(InvalidOperation, set_lifted, THREE, FLIP, MovedSet.places_of(THREE))
        # The further parameters come ahead.
        self.assert_raises(InvalidMove, image_of, THREE, FLIP, None)
        self.assert_raises(InvalidOperation, image_of, THREE, FLIP, (0, 1, 2))
        self.assert_raises(InvalidSubgroup, images_of, THREE, FLIP, None)
        self.assert_raises(InvalidOperation, images_of, THREE, FLIP, FLIP)
        self.assert_raises(InvalidRow, row_left, THREE, FLIP, (0, 0, 0))
        self.assert_raises(InvalidOperation, row_left, THREE, FLIP, (0, 0, 0, 0))
        self.assert_raises(InvalidKinds, kinds_left, THREE, FLIP, (0, 0, 0))
        self.assert_raises(InvalidOperation, kinds_left, THREE, FLIP, (0, 0, 0, 0))
        self.assert_raises(InvalidSet, set_lifted, THREE, FLIP, None)
        # Rows and subgroups of the quotient group come behind.
        for passed in (None, (), (0,), (0, 0, 0, 0), WRONG):
            for call in (row_lifted, kinds_lifted, behind):
                self.assert_raises(InvalidOperation, call, THREE, FLIP, passed)
        # Not kept, and more than 24 cosets.
        low = subgroups(FIVE)[1]
        self.assert_raises(InvalidOperation, quotient_group, FIVE, low)
        self.assert_raises(InvalidOperation, behind, FIVE, low, None)

    def test_sets_of_other_groups(self):
        quotient = quotient_group(SQUARE, SQUARE.moves[:1])
        self.assertTrue(set_lifted(SQUARE, SQUARE.moves[:1], MovedSet.places_of(quotient)).size == 8)
        for group in (SQUARE, PAIRS, ALONE, Group(2, ()), Group(8, ())):
            self.assert_raises(InvalidOperation, set_lifted, SQUARE, SQUARE.moves[:1], MovedSet.places_of(group))
        # A group that is the same, but moves its places in another way.
        self.assert_raises(InvalidOperation, set_lifted, THREE, TURNS, MovedSet.places_of(Group(3, ((1, 0, 2),))))


class NotTrue(Case):

    def test_lifted_of_what_is_left(self):
        self.assertEqual(set_left(MovedSet.places_of(SQUARE), ((0, 1, 2, 3), (2, 3, 0, 1))).size, 0)

    def test_no_subgroup_like_the_quotient(self):
        quotient = quotient_group(QUATER, subgroups(QUATER)[1])
        self.assertFalse(any(are_same(small_group(QUATER, one), quotient) for one in subgroups(QUATER)))

    def test_row_by_what_is_left(self):
        self.assert_false(is_mark_row(THREE, (1, 0, 0, 0)))
        self.assert_true(is_mark_row(quotient_group(THREE, TURNS), row_left(THREE, TURNS, (1, 0, 0, 0))))

    def test_all_rows_are_led(self):
        for row in product(range(2), repeat=4):
            self.assertEqual(row_left(THREE, TURNS, row), row[2:])


if __name__ == "__main__":
    unittest.main()
