"""[0.12] and [7.1] to [7.5]: the mark table, and kinds and mark rows that tell one another."""

import unittest
from fractions import Fraction
from itertools import product
from math import gcd

from helpers import (ALONE, Case, FIVE, MIRRORS, NO_GROUPS, NO_INDICES, NO_ROWS, NO_SUBGROUPS, PAIRS, QUATER, SQUARE, THREE,
                     TWENTY, WRONG, cosets_of, double_group, first_of, made, many_turning, times)
from movemarks.base.integers import is_ratio
from movemarks.base.tables import determinant
from movemarks.errors import InvalidGroup, InvalidKinds, InvalidNumber, InvalidRow, InvalidSubgroup, UnknownName
from movemarks.lattice.subgroups import class_of, classes, keeper, subgroups
from movemarks.mark import marks
from movemarks.mark.marks import (ROADS, coset_row, each_coset_row, keeper_indices, kinds_of, mark_by, mark_table, marks_of,
                                  part_sum, still_cosets)
from movemarks.move.groups import Group, beside
from movemarks.point.sets import MovedSet

SMALL = (THREE, SQUARE, PAIRS, QUATER, TWENTY, ALONE, MIRRORS, Group.even(4), Group.turning(12), many_turning(2, 2, 2))
GREAT = (Group.every(4), FIVE, Group.every(5), double_group(), beside(FIVE, Group.turning(2)), many_turning(3, 3, 3))
UNIT, FLIP = ((0, 1, 2),), ((0, 1, 2), (0, 2, 1))
LONG = 10 ** 60 - 1


def still(group, low, high):
    """The cosets of `high` that all moves of `low` leave, told anew."""
    return [coset for coset in cosets_of(group, high)
            if all(tuple(sorted(times(move, member) for member in coset)) == coset for move in low)]


def row_of(group, kinds):
    """The mark row of kinds, told anew from the cosets."""
    first = classes(group)
    return tuple(sum(many * len(still(group, low, high)) for many, high in zip(kinds, first)) for low in first)


def some_kinds(group):
    many = len(classes(group))
    yield (0,) * many
    for at in range(many):
        yield (0,) * at + (1,) + (0,) * (many - at - 1)
        yield tuple((at * other * other + other) % 7 - 3 for other in range(many))


class Table(Case):

    def test_constants(self):
        self.assertEqual(marks.ROADS, ("cosets", "doubles", "turned"))

    def test_marks_of_cosets(self):
        for group in SMALL:
            first = classes(group)
            self.assertEqual(mark_table(group), tuple(tuple(len(still(group, low, high)) for high in first) for low in first))

    def test_conjugated_within(self):
        # A coset g H is left by K exactly if g' K g lies within H.
        for group in (THREE, SQUARE, Group.even(4)):
            for low in subgroups(group)[::2]:
                for high in subgroups(group)[::3]:
                    right = [coset[0] for coset in cosets_of(group, high) if all(times(move, coset[0]) in coset for move in low)]
                    self.assertEqual(still_cosets(group, low, high), tuple(right))
                    self.assertEqual(len(right), mark_table(group)[class_of(group, low)][class_of(group, high)])

    def test_known_table(self):
        self.assertEqual(mark_table(FIVE), (
            (60, 30, 20, 15, 12, 10, 6, 5, 1), (0, 2, 0, 3, 0, 2, 2, 1, 1), (0, 0, 2, 0, 0, 1, 0, 2, 1), (0, 0, 0, 3, 0, 0, 0, 1, 1),
            (0, 0, 0, 0, 2, 0, 1, 0, 1), (0, 0, 0, 0, 0, 1, 0, 0, 1), (0, 0, 0, 0, 0, 0, 1, 0, 1), (0, 0, 0, 0, 0, 0, 0, 1, 1),
            (0, 0, 0, 0, 0, 0, 0, 0, 1)))
        self.assertEqual(mark_table(ALONE), ((1,),))
        self.assertEqual(mark_table(Group.turning(4)), ((4, 2, 1), (0, 2, 1), (0, 0, 1)))

    def test_form(self):
        for group in SMALL + GREAT:
            table, first = mark_table(group), classes(group)
            self.assertEqual((len(table), {len(row) for row in table}), (len(first), {len(first)}))
            self.assertEqual(table[0], tuple(group.order // len(one) for one in first))
            self.assertEqual([row[-1] for row in table], [1] * len(first))
            self.assertTrue(all(row[at] == 0 for index, row in enumerate(table) for at in range(index)))
            self.assertEqual(keeper_indices(group), tuple(row[at] for at, row in enumerate(table)))
            self.assertEqual(keeper_indices(group), tuple(len(keeper(group, one)) // len(one) for one in first))
            share = 1
            for number in keeper_indices(group):
                share *= number
            self.assertEqual(determinant(table), share)

    def test_roads(self):
        for group in SMALL + GREAT:
            table = mark_table(group)
            step = 1 + len(table) // 8
            for low in range(0, len(table), step):
                for high in range(len(table)):
                    told = [mark_by(group, low, high, road=road) for road in ROADS]
                    self.assertEqual(told, [table[low][high]] * 3)
                    self.assertEqual(mark_by(group, low, high), told[0])

    def test_sets(self):
        for group in SMALL + GREAT:
            for index, first in enumerate(classes(group)):
                if group.order // len(first) <= 60:
                    self.assertEqual(MovedSet.of_cosets(group, first).marks, coset_row(group, index))

    def test_rows_of_cosets(self):
        for group in SMALL + GREAT:
            table = mark_table(group)
            right = [tuple(row[at] for row in table) for at in range(len(table))]
            self.assertEqual([coset_row(group, at) for at in range(len(table))], right)
            self.assertEqual(list(each_coset_row(group)), right)

    def test_same_mark_for_all_of_a_class(self):
        moved = MovedSet.of_kinds(SQUARE, (1, 2, 0, 1, 0, 3, 0, 1))
        for one in subgroups(SQUARE):
            self.assertEqual(len(moved.still(one)), moved.marks[class_of(SQUARE, one)])


class Rows(Case):

    def test_marks_of(self):
        for group in SMALL[:6]:
            for kinds in some_kinds(group):
                self.assertEqual(marks_of(group, kinds), row_of(group, kinds))
        for group in SMALL + GREAT:
            for kinds in some_kinds(group):
                table = mark_table(group)
                row = marks_of(group, kinds)
                self.assertEqual(row, tuple(sum(mark * many for mark, many in zip(line, kinds)) for line in table))
                self.assertEqual(kinds_of(group, row), kinds)
                self.assertEqual(row[-1], kinds[-1])

    def test_sets(self):
        for kinds in product(range(3), repeat=4):
            moved = MovedSet.of_kinds(THREE, kinds)
            self.assertEqual((moved.marks, moved.kinds), (marks_of(THREE, kinds), kinds_of(THREE, moved.marks)))

    def test_kinds_of_all_rows(self):
        # Kinds are told by ratios; a row is a mark row exactly if all of them are integers.
        for row in product(range(-2, 5), repeat=4):
            low, high = Fraction(row[1] - row[3]), Fraction(row[2] - row[3], 2)
            kinds = ((row[0] - 3 * low - 2 * high - row[3]) / 6, low, high, Fraction(row[3]))
            right = tuple(int(many) for many in kinds) if all(many.denominator == 1 for many in kinds) else None
            self.assertEqual(kinds_of(THREE, row), right)

    def test_rows_near_mark_rows(self):
        for group in SMALL + GREAT:
            numbers = keeper_indices(group)
            for kinds in list(some_kinds(group))[::3]:
                row = marks_of(group, kinds)
                for at, number in enumerate(numbers):
                    for change in (1, -1, number - 1):
                        near = row[:at] + (row[at] + change,) + row[at + 1:]
                        if change % number:
                            self.assertIsNone(kinds_of(group, near))
                self.assertIsNotNone(kinds_of(group, (row[0] + group.order,) + row[1:]))

    def test_long_integers(self):
        self.assertEqual(marks_of(THREE, (LONG,) * 4), (12 * LONG, 2 * LONG, 3 * LONG, LONG))
        self.assertEqual(marks_of(THREE, (-LONG, 0, 0, LONG)), (-5 * LONG, LONG, LONG, LONG))
        self.assertEqual(kinds_of(THREE, (LONG,) * 4), (0, 0, 0, LONG))
        self.assertEqual(kinds_of(THREE, (-LONG, 0, LONG, LONG)), None)
        self.assertEqual(kinds_of(THREE, (0, LONG, 0, 0)), None)
        # Kinds with more digits than the row has.
        self.assertEqual(kinds_of(THREE, (-LONG, LONG, -LONG, -LONG)), (-LONG, 2 * LONG, 0, -LONG))
        self.assertIsNone(kinds_of(THREE, (1 - LONG, LONG, -LONG, -LONG)))

    def test_part_sum(self):
        for group in SMALL + GREAT:
            counts = [0] * len(classes(group))
            for move in group.moves:
                counts[class_of(group, made(group.places, (move,)))] += 1
            for row in [(0,) * len(counts), tuple(range(len(counts))), tuple(at * at - 9 for at in range(len(counts)))]:
                total = Fraction(sum(many * member for many, member in zip(counts, row)), group.order)
                found = part_sum(group, row)
                self.assertEqual(found, (total.numerator, total.denominator))
                self.assertTrue(is_ratio(found))
            for kinds in list(some_kinds(group))[::4]:
                self.assertEqual(part_sum(group, marks_of(group, kinds)), (sum(kinds), 1))
        self.assertEqual(part_sum(THREE, (-1, 0, 0, 0)), (-1, 6))
        self.assertEqual(part_sum(THREE, (0, 0, 0, 5)), (0, 1))
        top, bottom = part_sum(THREE, (LONG, LONG, LONG, 7))
        self.assertEqual((top, bottom), (LONG, 1))
        self.assertEqual(part_sum(PAIRS, (LONG, LONG, LONG, LONG - 1, 0))[0], 4 * LONG - 1)
        self.assertEqual(gcd(*part_sum(TWENTY, (1,) + (0,) * (len(classes(TWENTY)) - 1))), 1)


class Wrong(Case):

    def test_wrong_arguments(self):
        groups, rows, kinds = (InvalidGroup, NO_GROUPS), (InvalidRow, NO_ROWS), (InvalidKinds, NO_ROWS)
        index, within = (InvalidNumber, NO_INDICES), (InvalidSubgroup, NO_SUBGROUPS)
        for call in (mark_table, keeper_indices, first_of(each_coset_row)):
            self.assert_refused(call, (THREE,), groups)
        self.assert_refused(mark_by, (THREE, 0, 3), groups, index, index)
        self.assert_refused(coset_row, (THREE, 3), groups, index)
        self.assert_refused(still_cosets, (THREE, FLIP, UNIT), groups, within, within)
        self.assert_refused(marks_of, (THREE, (0, 1, 0, -LONG)), groups, kinds)
        self.assert_refused(kinds_of, (THREE, (0, 1, 0, -LONG)), groups, rows)
        self.assert_refused(part_sum, (THREE, (0, 1, 0, -LONG)), groups, rows)

    def test_wrong_roads(self):
        for road in WRONG + ("kinds", "Cosets", "turned ", "", b"turned", ("turned",), 0, ROADS, ["turned"], "cosetsdoubles"):
            self.assert_kept(UnknownName, road, mark_by, THREE, 0, 3, road=road)
            self.assert_kept(InvalidGroup, None, mark_by, None, 0, 3, road=road)
            self.assert_kept(InvalidNumber, 4, mark_by, THREE, 4, 3, road=road)
            self.assert_kept(InvalidNumber, True, mark_by, THREE, 0, True, road=road)
        self.assert_kept(InvalidNumber, -1, mark_by, THREE, -1, 4, road="kinds")
        with self.assertRaises(TypeError):
            mark_by(THREE, 0, 3, "turned")

    def test_rows_of_other_groups(self):
        self.assert_raises(InvalidRow, kinds_of, PAIRS, (0, 0, 0, 0))
        self.assert_raises(InvalidKinds, marks_of, ALONE, (0, 0))
        self.assertEqual((kinds_of(ALONE, (-5,)), marks_of(ALONE, (7,)), part_sum(ALONE, (3,))), ((-5,), (7,), (3, 1)))


class NotTrue(Case):

    def test_falling_row(self):
        self.assertIsNone(kinds_of(THREE, (3, 2, 1, 0)))

    def test_unlike_at_the_class_zero(self):
        first = mark_table(PAIRS)[0]
        self.assertLess(len(set(first)), len(first))

    def test_all_members_but_one_the_same(self):
        self.assertIsNone(kinds_of(PAIRS, (3, 1, 1, 1, 1)))
        self.assertIsNotNone(kinds_of(PAIRS, (5, 1, 1, 1, 1)))


if __name__ == "__main__":
    unittest.main()
