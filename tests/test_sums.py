"""[9.1] to [9.5]: sums, products and double cosets."""

import unittest
from itertools import combinations, product

from helpers import (ALONE, Case, FIVE, MIRRORS, NO_GROUPS, NO_INDICES, NO_ROWS, NO_SUBGROUPS, PAIRS, QUATER, SQUARE, THREE,
                     TWENTY, WRONG, double_group, first_of, many_turning, times, turned_by)
from movemarks.errors import InvalidGroup, InvalidKinds, InvalidNumber, InvalidRow, InvalidSubgroup
from movemarks.lattice.subgroups import class_of, classes, subgroups
from movemarks.made import sums
from movemarks.made.sums import (double_cosets, each_double, marks_equation, pair_kinds, power_kinds, product_kinds, row_plus,
                                 row_times)
from movemarks.mark.marks import coset_row, kinds_of, marks_of
from movemarks.move.groups import Group, beside
from movemarks.point.sets import MovedSet

SMALL = (THREE, SQUARE, PAIRS, QUATER, TWENTY, ALONE, MIRRORS, Group.even(4), Group.turning(12), many_turning(2, 2, 2))
GREAT = (Group.every(4), FIVE, double_group(), beside(FIVE, Group.turning(2)))
UNIT, FLIP = ((0, 1, 2),), ((0, 1, 2), (0, 2, 1))
LONG = 10 ** 60 - 1


def doubles(group, one, other):
    """The double cosets by their least moves, told anew, each as an ascending tuple."""
    return sorted({tuple(sorted({times(times(first, move), last) for first in one for last in other})) for move in group.moves})


def some_pairs(group):
    told = subgroups(group)
    step = 1 + len(told) // 8
    for one in told[::step]:
        for other in told[step // 2::step]:
            yield one, other
    yield told[-1], told[-1]
    yield told[0], told[0]


def some_kinds(group):
    many = len(classes(group))
    yield (0,) * many
    yield (0,) * (many - 1) + (1,)
    for at in range(many):
        yield tuple((at * other * other + other) % 7 - 3 for other in range(many))


class Doubles(Case):

    def test_double_cosets(self):
        for group in SMALL + (FIVE,):
            for one, other in some_pairs(group):
                right = doubles(group, one, other)
                self.assertEqual(double_cosets(group, one, other), tuple(coset[0] for coset in right))
                self.assertEqual(sorted(move for coset in right for move in coset), list(group.moves))

    def test_triples(self):
        for group in SMALL + (FIVE,):
            for one, other in some_pairs(group):
                right = []
                for coset in doubles(group, one, other):
                    meet = tuple(move for move in turned_by(other, coset[0]) if move in one)
                    right.append((coset[0], len(coset), class_of(group, meet)))
                    self.assertEqual(len(coset) * len(meet), len(one) * len(other))
                    # The class of M is the same at each move of the double coset.
                    for move in coset[::4]:
                        found = tuple(still for still in turned_by(other, move) if still in one)
                        self.assertEqual(class_of(group, found), right[-1][2])
                self.assertEqual(list(each_double(group, one, other)), right)

    def test_great_groups(self):
        for group in GREAT:
            for one, other in some_pairs(group):
                told = list(each_double(group, one, other))
                self.assertEqual(sum(many for _, many, _ in told), group.order)
                self.assertEqual(tuple(move for move, _, _ in told), double_cosets(group, one, other))
                self.assertEqual([move for move, _, _ in told], sorted(move for move, _, _ in told))

    def test_edges(self):
        self.assertEqual((double_cosets(ALONE, ((0,),), ((0,),)), list(each_double(ALONE, ((0,),), ((0,),)))), (((0,),), [((0,), 1, 0)]))
        self.assertEqual(double_cosets(THREE, UNIT, UNIT), THREE.moves)
        self.assertEqual(list(each_double(THREE, THREE.moves, FLIP)), [((0, 1, 2), 6, 1)])
        self.assertEqual(double_cosets(THREE, FLIP, UNIT), ((0, 1, 2), (1, 0, 2), (1, 2, 0)))
        self.assertEqual(double_cosets(THREE, UNIT, FLIP), ((0, 1, 2), (1, 0, 2), (2, 0, 1)))


class Kinds(Case):

    def test_pair_kinds(self):
        for group in SMALL + GREAT:
            first = classes(group)
            step = 1 + len(first) // 7
            for index in range(0, len(first), step):
                for number in range(len(first)):
                    right = [0] * len(first)
                    for _, _, at in each_double(group, first[index], first[number]):
                        right[at] += 1
                    told = pair_kinds(group, index, number)
                    self.assertEqual(told, tuple(right))
                    self.assertEqual(told, pair_kinds(group, number, index))
                    self.assertEqual(marks_of(group, told), row_times(group, coset_row(group, index), coset_row(group, number)))

    def test_pairs_of_sets(self):
        for group in (THREE, SQUARE, PAIRS, Group.even(4), TWENTY):
            for index, one in enumerate(classes(group)):
                for number, other in enumerate(classes(group)):
                    if group.order * group.order <= 60 * len(one) * len(other):
                        made = MovedSet.of_cosets(group, one) * MovedSet.of_cosets(group, other)
                        self.assertEqual(made.kinds, pair_kinds(group, index, number))

    def test_products(self):
        for group in SMALL + GREAT:
            told = list(some_kinds(group))
            for one in told[::4]:
                for other in told[::5]:
                    found = product_kinds(group, one, other)
                    self.assertEqual(marks_of(group, found), row_times(group, marks_of(group, one), marks_of(group, other)))
                    self.assertEqual(found, product_kinds(group, other, one))
                point = (0,) * (len(one) - 1) + (1,)
                self.assertEqual((product_kinds(group, one, point), product_kinds(group, point, one)), (one, one))

    def test_products_by_pairs(self):
        for group in (THREE, PAIRS, Group.even(4)):
            many = len(classes(group))
            for one in some_kinds(group):
                for other in some_kinds(group):
                    right = [0] * many
                    for index, number in product(range(many), repeat=2):
                        for at, part in enumerate(pair_kinds(group, index, number)):
                            right[at] += one[index] * other[number] * part
                    self.assertEqual(product_kinds(group, one, other), tuple(right))

    def test_with_the_cosets_of_the_unit(self):
        for group in SMALL:
            for kinds in some_kinds(group):
                unit = (1,) + (0,) * (len(kinds) - 1)
                self.assertEqual(product_kinds(group, kinds, unit), (marks_of(group, kinds)[0],) + unit[1:])

    def test_powers(self):
        for group in SMALL:
            for kinds in list(some_kinds(group))[:5]:
                right = (0,) * (len(kinds) - 1) + (1,)
                for many in range(13):
                    self.assertEqual(power_kinds(group, kinds, many), right)
                    if max(map(abs, right)) <= LONG:
                        right = product_kinds(group, right, kinds)
        self.assertEqual(power_kinds(THREE, (0, 0, 0, 0), 0), (0, 0, 0, 1))
        self.assertEqual(power_kinds(THREE, (0, 0, 0, 0), 12), (0, 0, 0, 0))
        self.assertEqual(power_kinds(ALONE, (-2,), 12), (4096,))
        self.assertEqual(power_kinds(THREE, (0, 0, 0, -LONG), 12), (0, 0, 0, LONG ** 12))
        self.assertEqual(marks_of(THREE, power_kinds(THREE, (1, 0, 2, -1), 11)), tuple(mark ** 11 for mark in (9, -1, 3, -1)))

    def test_long_kinds(self):
        self.assertEqual(product_kinds(THREE, (0, 0, 0, LONG), (0, LONG, 0, -LONG)), (0, LONG * LONG, 0, -LONG * LONG))
        self.assertEqual(product_kinds(THREE, (LONG, 0, 0, 0), (LONG, 0, 0, 0)), (6 * LONG * LONG, 0, 0, 0))


class Rows(Case):

    def test_rows(self):
        for one in product(range(-2, 2), repeat=4):
            other = (LONG, -LONG, 3, 0)
            self.assertEqual(row_plus(THREE, one, other), tuple(map(lambda a, b: a + b, one, other)))
            self.assertEqual(row_times(THREE, one, other), tuple(map(lambda a, b: a * b, one, other)))
        self.assertEqual((row_plus(ALONE, (LONG,), (LONG,)), row_times(ALONE, (LONG,), (-LONG,))), ((2 * LONG,), (-LONG * LONG,)))

    def test_sums_and_products_of_sets(self):
        for kinds in product(range(2), repeat=4):
            for other in ((0, 1, 0, 0), (0, 0, 1, 1), (0, 0, 0, 0)):
                one, two = MovedSet.of_kinds(THREE, kinds), MovedSet.of_kinds(THREE, other)
                self.assertEqual((one + two).marks, row_plus(THREE, one.marks, two.marks))
                self.assertEqual((one * two).marks, row_times(THREE, one.marks, two.marks))
                self.assertEqual((one * two).kinds, product_kinds(THREE, kinds, other))

    def test_equations(self):
        for group in SMALL + GREAT:
            for kinds in some_kinds(group):
                self.assertEqual(marks_equation(group, kinds), tuple(sorted(set(marks_of(group, kinds)))))
        self.assertEqual((marks_equation(ALONE, (5,)), marks_equation(THREE, (0, 0, 0, 0)), marks_equation(THREE, (1, 0, 0, 0))),
                         ((5,), (0,), (0, 6)))
        self.assertEqual(marks_equation(THREE, (0, 0, LONG, -LONG)), (-LONG, LONG))

    def test_only_this_product_has_the_kinds_zero(self):
        for kinds in ((0, 1, 0, 0), (1, 0, 1, 0), (0, -1, 2, 1)):
            told = marks_equation(THREE, kinds)
            for some in range(len(told) + 1):
                for roots in combinations(range(-6, 9), some):
                    made = (0, 0, 0, 1)
                    for root in roots:
                        made = product_kinds(THREE, made, kinds[:3] + (kinds[3] - root,))
                    self.assertEqual(made == (0, 0, 0, 0), roots == told)


class Wrong(Case):

    def test_wrong_arguments(self):
        groups, rows, kinds = (InvalidGroup, NO_GROUPS), (InvalidRow, NO_ROWS), (InvalidKinds, NO_ROWS)
        index, within = (InvalidNumber, NO_INDICES), (InvalidSubgroup, NO_SUBGROUPS)
        row = (0, 1, 0, -LONG)
        for call in (row_plus, row_times):
            self.assert_refused(call, (THREE, row, row), groups, rows, rows)
        for call in (double_cosets, first_of(each_double)):
            self.assert_refused(call, (THREE, FLIP, UNIT), groups, within, within)
        self.assert_refused(pair_kinds, (THREE, 0, 3), groups, index, index)
        self.assert_refused(product_kinds, (THREE, row, row), groups, kinds, kinds)
        self.assert_refused(power_kinds, (THREE, row, 12), groups, kinds, (InvalidNumber, WRONG + (13, 10 ** 59, (1,), "2")))
        self.assert_refused(marks_equation, (THREE, row), groups, kinds)

    def test_constant(self):
        self.assertEqual(sums.MAX_POWERED, 12)


class NotTrue(Case):

    def test_product_of_parts(self):
        self.assertEqual(sum(pair_kinds(THREE, 1, 1)), 2)

    def test_alike_products(self):
        unit, two, turns = (1, 0, 0, 0), (0, 0, 0, 2), (0, 0, 1, 0)
        self.assertEqual(product_kinds(THREE, two, unit), product_kinds(THREE, turns, unit))

    def test_kinds_of_a_product(self):
        self.assertNotEqual(pair_kinds(THREE, 1, 1), (0, 1, 0, 0))

    def test_sizes_of_double_cosets(self):
        self.assertEqual([many for _, many, _ in each_double(THREE, FLIP, FLIP)], [2, 4])

    def test_rows_that_are_told_by_kinds(self):
        self.assertIsNone(kinds_of(THREE, (2, 0, 0, 0)))


if __name__ == "__main__":
    unittest.main()
