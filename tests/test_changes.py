"""[0.14] and [10.1] to [10.7]: what is led down to subgroups, and up to greater groups."""

import unittest
from itertools import product

from helpers import (ALONE, Case, FIVE, MIRRORS, NO_GROUPS, NO_ROWS, NO_SETS, PAIRS, QUATER, SQUARE, THREE, TWENTY, WRONG, back,
                     many_turning, times, turned_by)
from movemarks.errors import InvalidGroup, InvalidKinds, InvalidOperation, InvalidRow, InvalidSet
from movemarks.lattice.subgroups import class_of, classes, cosets, made_by, meet_of, small_group, subgroups
from movemarks.made import changes
from movemarks.made.changes import class_indices, kinds_down, kinds_up, map_count, row_down, row_up, set_down, set_up
from movemarks.made.sums import double_cosets, each_double, product_kinds, row_times
from movemarks.mark.marks import kinds_of, marks_of
from movemarks.move.groups import Group
from movemarks.point.sets import MovedSet

LONG = 10 ** 60 - 1
FLIPS, SWAP = Group(3, ((0, 2, 1),)), Group(3, ((1, 0, 2),))
CROSS = Group(4, ((0, 3, 2, 1), (2, 1, 0, 3)))
# Groups that do not lie in THREE: further moves, other places, and fewer of them.
NO_SMALL = (SQUARE, PAIRS, Group(2, ((1, 0),)), Group(4, ((1, 0, 2, 3),)), Group.every(4), ALONE, Group(2, ()))
# Some groups with the makers of the subgroups, and with other ones, the unit and repeats among them.
ANEW = Group(4, ((0, 1, 2, 3), (2, 3, 0, 1), (2, 3, 0, 1), (1, 2, 3, 0)))
# THREE lies in EVERY_FOUR by these four places.
EVERY_FOUR = Group.every(4)
THREE_IN_FOUR = Group(4, ((1, 0, 2, 3), (1, 2, 0, 3)))


def pairs():
    """Groups, each with groups that lie in it: all subgroups with few moves, and some of the others."""
    for group in (THREE, SQUARE, PAIRS, QUATER, TWENTY, ALONE, MIRRORS, Group.even(4), many_turning(2, 2, 2), EVERY_FOUR, FIVE):
        told = subgroups(group)
        for one in told[:2] + told[2::1 + len(told) // 6] + told[-1:]:
            yield group, small_group(group, one)
    yield SQUARE, ANEW
    yield EVERY_FOUR, THREE_IN_FOUR
    yield FIVE, Group(5, ((1, 2, 0, 3, 4), (0, 1, 3, 4, 2), (1, 2, 3, 4, 0)))


def some_kinds(group):
    many = len(classes(group))
    yield (0,) * many
    yield (0,) * (many - 1) + (1,)
    for at in range(many):
        yield (0,) * at + (1,) + (0,) * (many - at - 1)
        yield tuple((at * other * other + other) % 7 - 3 for other in range(many))


def plain_led_down(group, small, kinds):
    """The kinds of what is led down, told anew by double cosets."""
    right = [0] * len(classes(small))
    for many, first in zip(kinds, classes(group)):
        for move in double_cosets(group, small.moves, first) if many else ():
            meet = tuple(still for still in turned_by(first, move) if still in small)
            right[class_of(small, meet)] += many
    return tuple(right)


def plain_row_up(group, small, row):
    """The row of what is led up, told anew by [10.3]."""
    right = []
    for first in classes(group):
        total = 0
        for coset in cosets(group, small.moves):
            turned = turned_by(first, back(coset[0]))
            if all(move in small for move in turned):
                total += row[class_of(small, turned)]
        right.append(total)
    return tuple(right)


class Classes(Case):

    def test_class_indices(self):
        for group, small in pairs():
            told = class_indices(group, small)
            self.assertEqual(told, tuple(class_of(group, first) for first in classes(small)))
            for one in subgroups(small)[::3]:
                self.assertEqual(class_of(group, one), told[class_of(small, one)])
        self.assertEqual(class_indices(SQUARE, CROSS), (0, 1, 1, 3, 4))
        self.assertEqual((class_indices(ALONE, ALONE), class_indices(THREE, Group(3, ()))), ((0,), (0,)))
        for group in (THREE, SQUARE, FIVE):
            self.assertEqual(class_indices(group, group), tuple(range(len(classes(group)))))


class Down(Case):

    def test_rows(self):
        for group, small in pairs():
            for kinds in list(some_kinds(group))[::2]:
                row = marks_of(group, kinds)
                self.assertEqual(row_down(group, small, row), tuple(row[index] for index in class_indices(group, small)))
                # No mark row, but a row.
                self.assertEqual(row_down(group, small, kinds), tuple(kinds[class_of(group, one)] for one in classes(small)))

    def test_kinds(self):
        for group, small in pairs():
            for kinds in list(some_kinds(group))[::1 if group.order < 13 else 4]:
                led = kinds_down(group, small, kinds)
                self.assertEqual(led, plain_led_down(group, small, kinds))
                self.assertEqual(marks_of(small, led), row_down(group, small, marks_of(group, kinds)))
        self.assertEqual(kinds_down(FIVE, Group(5, ()), (0, 0, 0, 0, 0, 0, 0, 1, 2)), (7,))
        self.assertEqual(kinds_down(THREE, THREE, (1, -2, 3, -4)), (1, -2, 3, -4))

    def test_sets(self):
        for group, small in pairs():
            for one in subgroups(group)[::3]:
                if group.order // len(one) <= 60:
                    moved = MovedSet.of_cosets(group, one)
                    led = set_down(moved, small)
                    self.assertEqual((led.size, led.group.makers, led.group == small), (moved.size, small.makers, True))
                    for move in small.moves:
                        self.assertEqual([led.led(move, point) for point in range(led.size)],
                                         [moved.led(move, point) for point in range(led.size)])
                    self.assertEqual((led.marks, led.kinds), (row_down(group, small, moved.marks), kinds_down(group, small, moved.kinds)))

    def test_other_makers(self):
        led = set_down(MovedSet.places_of(SQUARE), ANEW)
        self.assertEqual((led.actions, led.group.makers), (ANEW.makers, ANEW.makers))
        self.assertEqual(led.kinds, MovedSet.places_of(Group.turning(4)).kinds)

    def test_without_points(self):
        empty = MovedSet(THREE, 0, ((), ()))
        self.assertEqual((set_down(empty, FLIPS).size, set_down(empty, FLIPS).actions), (0, ((),)))
        self.assertEqual((set_up(empty, THREE).size, set_up(MovedSet(FLIPS, 0, ((),)), THREE).actions), (0, ((), ())))


class Up(Case):

    def test_rows(self):
        for group, small in pairs():
            for kinds in list(some_kinds(small))[::2]:
                row = marks_of(small, kinds)
                self.assertEqual(row_up(group, small, row), plain_row_up(group, small, row))
                self.assertEqual(row_up(group, small, kinds), plain_row_up(group, small, kinds))

    def test_kinds(self):
        for group, small in pairs():
            for kinds in some_kinds(small):
                right = [0] * len(classes(group))
                for many, first in zip(kinds, classes(small)):
                    right[class_of(group, first)] += many
                self.assertEqual(kinds_up(group, small, kinds), tuple(right))
                self.assertEqual(marks_of(group, tuple(right)), row_up(group, small, marks_of(small, kinds)))

    def test_sets(self):
        for group, small in pairs():
            for kinds in list(some_kinds(small))[::3]:
                size = marks_of(small, kinds)[0] * (group.order // small.order)
                if min(kinds) >= 0 and size <= 60:
                    moved = MovedSet.of_kinds(small, kinds)
                    led = set_up(moved, group)
                    self.assertEqual((led.size, led.group.makers), (size, group.makers))
                    self.assertEqual((led.kinds, led.marks), (kinds_up(group, small, kinds), row_up(group, small, moved.marks)))
                    self.check_points(moved, small, group, led)

    def check_points(self, moved, small, group, led):
        """Each move leads (i, q) to (j, s q), where g x_i is x_j s."""
        first = [coset[0] for coset in cosets(group, small.moves)]
        for move in group.moves[::1 + group.order // 7]:
            for index, least in enumerate(first):
                for point in range(moved.size):
                    target = led.led(move, index * moved.size + point)
                    number, point_led = divmod(target, moved.size)
                    step = times(back(first[number]), times(move, least))
                    self.assertTrue(step in small)
                    self.assertEqual(moved.led(step, point), point_led)

    def test_cosets_led_up(self):
        for group, small in pairs():
            for one in subgroups(small)[::4]:
                if group.order // len(one) <= 60:
                    led = set_up(MovedSet.of_cosets(small, one), group)
                    self.assertEqual(led.kinds, MovedSet.of_cosets(group, one).kinds)

    def test_whole_group(self):
        for kinds in product(range(3), repeat=4):
            moved = MovedSet.of_kinds(THREE, kinds)
            self.assertTrue(set_up(moved, THREE) == moved and set_down(moved, THREE) == moved)
            self.assertEqual((row_up(THREE, THREE, kinds), row_down(THREE, THREE, kinds)), (kinds, kinds))

    def test_sixty_points(self):
        unit = Group(3, ())
        self.assertEqual(set_up(MovedSet.of_kinds(unit, (10,)), THREE).kinds, (10, 0, 0, 0))
        self.assert_too_many(60, set_up, MovedSet.of_kinds(unit, (11,)), THREE)
        self.assertEqual(set_up(MovedSet.of_kinds(FLIPS, (0, 20)), THREE).size, 60)
        self.assert_too_many(60, set_up, MovedSet.of_kinds(FLIPS, (0, 21)), THREE)
        self.assertEqual(set_up(MovedSet.of_kinds(Group(5, ()), (1,)), FIVE).size, 60)
        self.assert_too_many(60, set_up, MovedSet.of_kinds(Group(5, ()), (1,)), Group.every(5))
        self.assertEqual(set_up(MovedSet.of_kinds(Group(5, ()), (0,)), Group.every(5)).size, 0)

    def test_long_integers(self):
        self.assertEqual(row_up(THREE, Group(3, ()), (LONG,)), (6 * LONG, 0, 0, 0))
        self.assertEqual(row_up(THREE, FLIPS, (-LONG, LONG)), (-3 * LONG, LONG, 0, 0))
        self.assertEqual(kinds_up(SQUARE, CROSS, (0, LONG, LONG, 0, -LONG)), (0, 2 * LONG, 0, 0, -LONG, 0, 0, 0))
        self.assertEqual(kinds_down(THREE, Group(3, ()), (LONG, 0, 0, 0)), (6 * LONG,))
        self.assertEqual(row_down(THREE, FLIPS, (LONG, -LONG, 3, 4)), (LONG, -LONG))


class Both(Case):

    def test_sums_and_products(self):
        for group, small in ((THREE, FLIPS), (SQUARE, CROSS), (EVERY_FOUR, THREE_IN_FOUR)):
            told = list(some_kinds(group))
            for one in told:
                for other in told[::4]:
                    self.assertEqual(kinds_down(group, small, product_kinds(group, one, other)),
                                     product_kinds(small, kinds_down(group, small, one), kinds_down(group, small, other)))
                    total = tuple(map(lambda a, b: a + b, one, other))
                    led = map(lambda a, b: a + b, kinds_down(group, small, one), kinds_down(group, small, other))
                    self.assertEqual(kinds_down(group, small, total), tuple(led))

    def test_two_steps(self):
        middle, low = small_group(EVERY_FOUR, Group.even(4).moves), Group(4, ((1, 0, 3, 2),))
        for kinds in some_kinds(EVERY_FOUR):
            self.assertEqual(kinds_down(middle, low, kinds_down(EVERY_FOUR, middle, kinds)), kinds_down(EVERY_FOUR, low, kinds))
            self.assertEqual(row_down(middle, low, row_down(EVERY_FOUR, middle, kinds)), row_down(EVERY_FOUR, low, kinds))
        for kinds in some_kinds(low):
            self.assertEqual(kinds_up(EVERY_FOUR, middle, kinds_up(middle, low, kinds)), kinds_up(EVERY_FOUR, low, kinds))
            self.assertEqual(row_up(EVERY_FOUR, middle, row_up(middle, low, kinds)), row_up(EVERY_FOUR, low, kinds))

    def test_product_with_what_is_led_up(self):
        for group, small in pairs():
            for kinds in list(some_kinds(small))[::5]:
                for other in list(some_kinds(group))[::5]:
                    left = kinds_up(group, small, product_kinds(small, kinds, kinds_down(group, small, other)))
                    self.assertEqual(left, product_kinds(group, kinds_up(group, small, kinds), other))

    def test_up_then_down(self):
        for group, small in pairs():
            for far in subgroups(group)[::1 + len(subgroups(group)) // 4]:
                target = small_group(group, far)
                for one in subgroups(small)[::4]:
                    right = [0] * len(classes(target))
                    # The cosets of `one`, turned by g, are those of the turned subgroup.
                    for move in double_cosets(group, far, small.moves):
                        turned = turned_by(one, move)
                        meet = small_group(group, meet_of(group, far, turned_by(small.moves, move)))
                        above = small_group(group, turned_by(small.moves, move))
                        alone = tuple(int(class_of(above, turned) == index) for index in range(len(classes(above))))
                        for at, many in enumerate(kinds_up(target, meet, kinds_down(above, meet, alone))):
                            right[at] += many
                    alone = tuple(int(class_of(small, one) == index) for index in range(len(classes(small))))
                    self.assertEqual(kinds_down(group, target, kinds_up(group, small, alone)), tuple(right))


class Maps(Case):

    def test_counts(self):
        # The maps that go along, told anew one by one.
        for kinds in ((0, 1, 0, 0), (0, 0, 1, 0), (0, 0, 0, 2), (0, 0, 1, 1), (1, 0, 0, 0), (0, 0, 0, 0)):
            start = MovedSet.of_kinds(THREE, kinds)
            for other in ((0, 1, 0, 0), (0, 0, 1, 0), (0, 0, 0, 1), (0, 1, 0, 1), (0, 0, 0, 0)):
                end = MovedSet.of_kinds(THREE, other)
                right = sum(all(end.led(maker, image[point]) == image[start.led(maker, point)]
                                for maker in THREE.makers for point in range(start.size))
                            for image in product(range(end.size), repeat=start.size))
                self.assertEqual(map_count(THREE, kinds, end.marks), right)

    def test_powers(self):
        for group in (THREE, SQUARE, FIVE, ALONE):
            many = len(classes(group))
            for kinds in (tuple(at % 4 for at in range(many)), (20,) * many, (0,) * many):
                for row in (tuple(at - 2 for at in range(many)), (0,) * many, (LONG,) * many):
                    right = 1
                    for exponent, mark in zip(kinds, row):
                        right *= mark ** exponent
                    self.assertEqual(map_count(group, kinds, row), right)
        self.assertEqual((map_count(THREE, (0, 0, 0, 0), (0, 0, 0, 0)), map_count(THREE, (0, 0, 0, 20), (1, 1, 1, 0))), (1, 0))

    def test_bounds(self):
        row = (1, 2, 3, 4)
        self.assertEqual(map_count(THREE, (0, 0, 0, 20), row), 4 ** 20)
        for kinds in ((0, 0, 0, 21), (21, 0, 0, 0), (-1, 0, 0, 0), (0, 0, 0, -1), (0, LONG, 0, 0), (0, -LONG, 0, 0)):
            self.assert_raises(InvalidKinds, map_count, THREE, kinds, row)

    def test_up_and_down(self):
        # From X led up to Z there are as many as from X to Z led down.
        for group, small in pairs():
            for kinds in list(some_kinds(small))[::3]:
                if min(kinds) >= 0:
                    for other in list(some_kinds(group))[::4]:
                        row = marks_of(group, other)
                        self.assertEqual(map_count(group, kinds_up(group, small, kinds), row),
                                         map_count(small, kinds, row_down(group, small, row)))


class Wrong(Case):

    def test_wrong_arguments(self):
        groups, small = (InvalidGroup, NO_GROUPS), (InvalidGroup, NO_GROUPS)
        rows, kinds = (InvalidRow, NO_ROWS), (InvalidKinds, NO_ROWS)
        row = (0, LONG, 0, -LONG)
        self.assert_refused(class_indices, (THREE, THREE), groups, small)
        for call in (row_down, row_up):
            self.assert_refused(call, (THREE, THREE, row), groups, small, rows)
        for call in (kinds_down, kinds_up):
            self.assert_refused(call, (THREE, THREE, row), groups, small, kinds)
        self.assert_refused(map_count, (THREE, (0, 1, 0, 20), row), groups, (InvalidKinds, NO_ROWS + ((0, 0, 0, 21), (0, -1, 0, 0))), rows)
        for call in (set_down, set_up):
            self.assert_refused(call, (MovedSet.places_of(THREE), THREE), (InvalidSet, NO_SETS), groups)

    def test_groups_that_do_not_lie_within(self):
        row = (0, 0, 0, 0)
        for small in NO_SMALL:
            self.assert_raises(InvalidOperation, class_indices, THREE, small)
            for call in (row_down, row_up, kinds_down, kinds_up):
                for passed in (row, None, (0,), WRONG):
                    self.assert_raises(InvalidOperation, call, THREE, small, passed)
                    self.assert_raises(InvalidGroup, call, None, small, passed)
            self.assert_raises(InvalidOperation, set_down, MovedSet.places_of(THREE), small)
            self.assert_raises(InvalidOperation, set_up, MovedSet.places_of(small), THREE)
        self.assert_raises(InvalidOperation, class_indices, FLIPS, THREE)
        self.assert_raises(InvalidOperation, class_indices, FLIPS, SWAP)
        self.assert_raises(InvalidOperation, set_up, MovedSet.places_of(THREE), FLIPS)
        self.assert_raises(InvalidOperation, set_down, MovedSet.places_of(FLIPS), THREE)
        # Too many points, and a group that does not lie within.
        self.assert_raises(InvalidOperation, set_up, MovedSet.of_kinds(Group(3, ()), (60,)), SQUARE)

    def test_rows_of_the_other_group(self):
        self.assert_raises(InvalidRow, row_down, THREE, FLIPS, (0, 0))
        self.assert_raises(InvalidRow, row_up, THREE, FLIPS, (0, 0, 0, 0))
        self.assert_raises(InvalidKinds, kinds_down, THREE, FLIPS, (0, 0))
        self.assert_raises(InvalidKinds, kinds_up, THREE, FLIPS, (0, 0, 0, 0))

    def test_constant(self):
        self.assertEqual(changes.MAX_MAPPED, 20)


class NotTrue(Case):

    def test_multiple_of_what_it_was(self):
        led = kinds_down(THREE, FLIPS, kinds_up(THREE, FLIPS, (0, 1)))
        self.assertEqual(led, (1, 1))

    def test_part_led_down(self):
        self.assertEqual(sum(kinds_down(THREE, FLIPS, (0, 1, 0, 0))), 2)

    def test_unlike_rows_led_up(self):
        one, other = (0, 1, 0, 0, 0), (0, 0, 1, 0, 0)
        self.assertEqual(kinds_up(SQUARE, CROSS, one), kinds_up(SQUARE, CROSS, other))
        self.assertEqual(row_up(SQUARE, CROSS, marks_of(CROSS, one)), row_up(SQUARE, CROSS, marks_of(CROSS, other)))


class MadeSets(Case):

    def test_rows_alone(self):
        # [0.14]: mark rows lead to mark rows.
        for group, small in pairs():
            for kinds in list(some_kinds(group))[::3]:
                self.assertIsNotNone(kinds_of(small, row_down(group, small, marks_of(group, kinds))))
                self.assertIsNotNone(kinds_of(group, row_times(group, marks_of(group, kinds), marks_of(group, kinds))))
            for kinds in list(some_kinds(small))[::3]:
                self.assertIsNotNone(kinds_of(group, row_up(group, small, marks_of(small, kinds))))

    def test_double_cosets_of_a_made_subgroup(self):
        low = made_by(EVERY_FOUR, ((1, 0, 2, 3),))
        self.assertEqual(sum(many for _, many, _ in each_double(EVERY_FOUR, low, THREE_IN_FOUR.moves)), 24)


if __name__ == "__main__":
    unittest.main()
