"""[0.16] and [14.1] to [14.6]: mark rows of 1 and -1."""

import unittest
from itertools import product
from math import prod

from helpers import (ALONE, Case, FIVE, MIRRORS, NO_GROUPS, NO_INDICES, NO_ROWS, PAIRS, QUATER, SQUARE, THREE, TWENTY, WRONG,
                     double_group, first_of, made, many_turning, times)
from movemarks.errors import InvalidGroup, InvalidKinds, InvalidNumber, InvalidRow
from movemarks.lattice.subgroups import class_of, classes, keeper, subgroups
from movemarks.made.sums import double_cosets
from movemarks.mark.marks import coset_row, kinds_of, marks_of
from movemarks.mark.rows import first_fault, is_mark_row
from movemarks.move.groups import Group, beside
from movemarks.point.sets import MovedSet
from movemarks.square.signs import (each_sign_row, half_rows, is_sign_paper, is_sign_row, part_row, sign_basis, sign_count, sign_map,
                                    sign_paper)

LONG = 10 ** 60 - 1
EVEN = Group.even(4)
SMALL = (THREE, SQUARE, PAIRS, QUATER, ALONE, Group.turning(12), Group.turning(9), EVEN, TWENTY, FIVE, Group.every(4))
GREAT = (MIRRORS, Group.every(5), double_group(), beside(FIVE, Group.turning(2)), many_turning(2, 2, 4), many_turning(2, 3, 3),
         many_turning(3, 3, 3), Group.mirrors(15), beside(SQUARE, Group.turning(2)), beside(Group.every(4), Group.turning(5)))
ODD = (ALONE, Group.turning(9), Group.turning(15), many_turning(3, 3, 3), many_turning(5, 5),
       Group(7, ((1, 2, 3, 4, 5, 6, 0), (0, 2, 4, 6, 1, 3, 5))))
# None of these is a tuple of the integers 1 and -1, one for each of the four classes of THREE.
NO_SIGNS = NO_ROWS + ((1, 1, 1), (-1,) * 5, [1, 1, 1, 1], (1, 1, 1, True), (True, 1, 1, 1), (1, 1, 1, 0), (2, 1, 1, 1), (1, -2, 1, 1),
                      (0, 0, 0, 0), (1, 1, 1, 10 ** 60), (1, 1, 1, None), (1, 1, "1", 1), (1, 1, (1,), 1), ((1, 1, 1, 1),), "1111", 1)


def rows_of_signs(group):
    return product((-1, 1), repeat=len(classes(group)))


def some_rows(group):
    """Rows of 1 and -1: all for few classes, and for many ones sign rows and rows that are near to them."""
    many = len(classes(group))
    if many < 9:
        return list(rows_of_signs(group))
    found = [(1,) * many, (-1,) * many]
    for seed in range(6):
        row = part_row(group, tuple((seed * at + at * at // 2) % 3 for at in range(many)))
        found.append(row)
        found.extend(row[:at] + (-row[at],) + row[at + 1:] for at in range(seed, many, 5))
    return found


def map_of(group, row, index):
    """The sign map at a class, a dict, told anew."""
    first = classes(group)[index]
    return {move: row[class_of(group, made(group.places, first + (move,)))] * row[index] for move in keeper(group, first)}


def unlike(signs):
    """The pairs of moves whose product has another sign than the product of their signs."""
    return {(one, other) for one in signs for other in signs if signs[times(one, other)] != signs[one] * signs[other]}


class Rows(Case):

    def test_all_rows_of_signs(self):
        for group in SMALL:
            right = [row for row in rows_of_signs(group) if is_mark_row(group, row)]
            self.assertEqual(list(each_sign_row(group)), right)
            self.assertEqual(sign_count(group), len(right))
            for row in rows_of_signs(group):
                self.assertIs(is_sign_row(group, row), row in right)

    def test_products(self):
        # [14.1]
        for group in SMALL[:8]:
            rows = list(each_sign_row(group))
            self.assertEqual(len(rows) & (len(rows) - 1), 0)
            self.assertIn((1,) * len(rows[0]), rows)
            self.assertIn((-1,) * len(rows[0]), rows)
            for one in rows:
                for other in rows[:40]:
                    self.assert_true(is_sign_row(group, tuple(a * b for a, b in zip(one, other))))

    def test_maps(self):
        # [0.16], [14.2] and [14.3]
        for group in (THREE, SQUARE, PAIRS, QUATER, ALONE, EVEN, Group.turning(9)):
            for row in rows_of_signs(group):
                broken = []
                for index in range(len(row)):
                    signs = map_of(group, row, index)
                    self.assertEqual(sign_map(group, row, index), tuple(signs[move] for move in sorted(signs)))
                    if unlike(signs):
                        broken.append(index)
                self.assertIs(is_sign_row(group, row), broken == [])
                if broken:
                    self.assertIn(first_fault(group, row), broken)

    def test_great_groups(self):
        for group in GREAT:
            many = len(classes(group))
            for row in some_rows(group):
                self.assertIs(is_sign_row(group, row), is_mark_row(group, row))
            for seed in range(3):
                row = some_rows(group)[seed]
                for index in range(0, many, 1 + many // 4):
                    signs = map_of(group, row, index)
                    self.assertEqual(sign_map(group, row, index), tuple(signs[move] for move in sorted(signs)))

    def test_values(self):
        self.assert_true(is_sign_row(THREE, (1, 1, 1, -1)))
        self.assert_false(is_sign_row(THREE, (1, 1, -1, 1)))
        for value in NO_SIGNS + ((10 ** 99,) * 4, (3, 1, 1, 1), (9, 1, 0, 0)):
            self.assert_false(is_sign_row(THREE, value))
        self.assert_true(is_sign_row(ALONE, (-1,)))
        self.assert_false(is_sign_row(ALONE, (True,)))


class Basis(Case):

    def test_basis(self):
        for group in SMALL + GREAT + ODD:
            basis = sign_basis(group)
            leads = [row.index(-1) for row in basis]
            self.assertEqual(leads, sorted(set(leads)))
            for at, row in enumerate(basis):
                self.assert_true(is_sign_row(group, row))
                self.assertEqual([row[lead] for lead in leads], [-1 if other == at else 1 for other in range(len(basis))])
            self.assertEqual(sign_count(group), 2 ** len(basis))

    def test_each_row_in_just_one_way(self):
        for group in SMALL:
            basis = sign_basis(group)
            made_rows = {tuple(map(prod, zip((1,) * len(classes(group)), *some))) for some in
                         ([row for row, taken in zip(basis, bits) if taken] for bits in product((0, 1), repeat=len(basis)))}
            self.assertEqual(made_rows, set(each_sign_row(group)))
            self.assertEqual(len(made_rows), 2 ** len(basis))

    def test_no_sign_row_is_left_out(self):
        # The part rows of all kinds, and what is 1 modulo 2 times mark rows, are sign rows that the basis must make.
        for group in GREAT:
            basis = sign_basis(group)
            for row in some_rows(group):
                left = row
                for member in basis:
                    if left[member.index(-1)] == -1:
                        left = tuple(a * b for a, b in zip(left, member))
                self.assertIs(set(left) == {1}, is_mark_row(group, row))

    def test_many_rows_are_told_one_by_one(self):
        group = beside(Group.mirrors(12), Group.turning(2))
        self.assertEqual((group.order, sign_count(group)), (48, 65536))
        rows = each_sign_row(group)
        found = [next(rows) for _ in range(300)]
        self.assertEqual(found, sorted(set(found)))
        self.assertEqual(found[0], (-1,) * len(classes(group)))
        for row in found:
            self.assert_true(is_mark_row(group, row))

    def test_all_rows_ascend(self):
        for group in GREAT:
            if sign_count(group) < 2000:
                rows = list(each_sign_row(group))
                self.assertEqual(rows, sorted(set(rows)))
                self.assertEqual(len(rows), sign_count(group))
                self.assertEqual((rows[0], rows[-1]), ((-1,) * len(rows[0]), (1,) * len(rows[0])))
                for row in rows[::17]:
                    self.assert_true(is_mark_row(group, row))

    def test_group_of_one_move(self):
        self.assertEqual((sign_basis(ALONE), sign_count(ALONE), list(each_sign_row(ALONE))), (((-1,),), 2, [(-1,), (1,)]))
        self.assertEqual((half_rows(ALONE), part_row(ALONE, (3,)), part_row(ALONE, (-2,))), ((), (-1,), (1,)))
        self.assertEqual((sign_map(ALONE, (-1,), 0), sign_paper(ALONE, (-1,))), ((1,), ("kinds", (-1,))))


class Parts(Case):

    def test_parts_of_sets(self):
        # [14.4], with the parts told by moving the points.
        for group in (THREE, SQUARE, PAIRS, QUATER, ALONE, EVEN, TWENTY, FIVE):
            many = len(classes(group))
            for seed in range(5):
                kinds = tuple((seed + at * at) % 3 if group.order // len(first) < 11 else 0 for at, first in enumerate(classes(group)))
                if sum(number * (group.order // len(first)) for number, first in zip(kinds, classes(group))) > 60:
                    kinds = (0,) * (many - 1) + (seed,)
                moved = MovedSet.of_kinds(group, kinds)
                right = []
                for first in classes(group):
                    parts = {frozenset(moved.led(move, point) for move in first) for point in range(moved.size)}
                    right.append(-1 if len(parts) % 2 else 1)
                self.assertEqual(part_row(group, kinds), tuple(right))

    def test_double_cosets(self):
        for group in (THREE, SQUARE, PAIRS, EVEN, TWENTY, FIVE, Group.every(4)):
            first = classes(group)
            many = len(first)
            for seed in range(5):
                kinds = tuple((seed * at + at * at) % 7 - 3 for at in range(many))
                right = tuple(prod((-1) ** (kinds[at] * len(double_cosets(group, low, first[at])) % 2) for at in range(many)) for low in first)
                self.assertEqual(part_row(group, kinds), right)

    def test_sums(self):
        for group in SMALL + GREAT:
            many = len(classes(group))
            for seed in range(4):
                one, other = tuple((seed + 3 * at) % 5 - 2 for at in range(many)), tuple((seed * at) % 4 - 1 for at in range(many))
                both = part_row(group, tuple(map(sum, zip(one, other))))
                self.assertEqual(both, tuple(a * b for a, b in zip(part_row(group, one), part_row(group, other))))
                self.assert_true(is_sign_row(group, both))

    def test_long_kinds(self):
        self.assertEqual(part_row(THREE, (LONG, -LONG, LONG - 1, 10 ** 59)), part_row(THREE, (1, 1, 0, 0)))

    def test_halves(self):
        # [14.5]
        for group in SMALL + GREAT + ODD:
            halves = [one for one in subgroups(group) if 2 * len(one) == group.order]
            told = half_rows(group)
            self.assertEqual([index for index, _ in told], [class_of(group, half) for half in halves])
            for (index, row), half in zip(told, halves):
                self.assertEqual(row, tuple(1 if set(first) <= set(half) else -1 for first in classes(group)))
                self.assertEqual(row, part_row(group, tuple(int(at == index) for at in range(len(row)))))
                self.assertEqual(tuple(mark - 1 for mark in coset_row(group, index)), row)

    def test_commutative_groups(self):
        for group in (PAIRS, ALONE, Group.turning(12), Group.turning(2), many_turning(2, 2, 4), many_turning(2, 3, 3), many_turning(2, 2, 2),
                      many_turning(4, 4)):
            self.assert_true(group.is_commutative)
            factors = [row for _, row in half_rows(group)] + [(-1,) * len(classes(group))]
            self.assertEqual(sign_count(group), 2 ** len(factors))
            found = {tuple(map(prod, zip((1,) * len(factors[0]), *[row for row, taken in zip(factors, bits) if taken])))
                     for bits in product((0, 1), repeat=len(factors))}
            self.assertEqual(found, set(each_sign_row(group)))

    def test_odd_orders(self):
        for group in ODD:
            self.assertEqual((group.order % 2, sign_count(group), half_rows(group)), (1, 2, ()))


class Papers(Case):

    def test_papers(self):
        for group in SMALL + GREAT:
            for row in some_rows(group)[:300]:
                paper = sign_paper(group, row)
                self.assert_true(is_sign_paper(group, row, paper))
                if is_mark_row(group, row):
                    self.assertEqual(paper, ("kinds", kinds_of(group, row)))
                else:
                    self.assertEqual((paper[0], len(paper)), ("moves", 4))
                    self.assertIn(paper[2:], unlike(map_of(group, row, paper[1])))

    def test_all_moves(self):
        for group, row in ((THREE, (1, 1, -1, 1)), (EVEN, (1, 1, 1, 1, -1)), (SQUARE, (1, -1, 1, 1, 1, -1, 1, 1)), (THREE, (1, 1, 1, -1))):
            for index in range(len(row)):
                right = unlike(map_of(group, row, index))
                for one, other in product(group.moves, repeat=2):
                    self.assertIs(is_sign_paper(group, row, ("moves", index, one, other)), (one, other) in right)

    def test_all_kinds(self):
        row = (1, 1, 1, -1)
        for kinds in product(range(-2, 3), repeat=4):
            self.assertIs(is_sign_paper(THREE, row, ("kinds", kinds)), marks_of(THREE, kinds) == row)

    def test_wrong_papers(self):
        good, bad = (1, 1, 1, -1), (1, 1, -1, 1)
        self.assert_true(is_sign_paper(THREE, good, ("kinds", (-1, 2, 1, -1))))
        self.assert_true(is_sign_paper(THREE, bad, ("moves", 0, (0, 2, 1), (1, 0, 2))))
        kinds = [("kinds", value) for value in NO_ROWS + ((-1, 2, 1, -1, 0), (-1, 2, 1), [-1, 2, 1, -1], (-1, 2, True, -1),
                                                          (10 ** 99, 0, 0, 0), (0, 0, 0, 10 ** 99))]
        shapes = [("kinds",), ("kinds", (-1, 2, 1, -1), 0), ["kinds", (-1, 2, 1, -1)], ("Kinds", (-1, 2, 1, -1)), ((-1, 2, 1, -1), "kinds"),
                  ("moves", (-1, 2, 1, -1)), ("kinds", -1, 2, 1), (True, (-1, 2, 1, -1)), ()]
        for value in list(WRONG) + kinds + shapes + [("moves", 0, (0, 2, 1), (1, 0, 2)), ("moves", 0, (0, 1, 2), (0, 1, 2))]:
            self.assert_false(is_sign_paper(THREE, good, value))
        one, other = (0, 2, 1), (1, 0, 2)
        moves = [("moves", 0, value, other) for value in WRONG] + [("moves", 0, one, value) for value in WRONG]
        moves += [("moves", value, one, other) for value in NO_INDICES]
        shapes = [("moves",), ("moves", 0), ("moves", 0, one), ("moves", 0, one, other, 0), ["moves", 0, one, other], ("move", 0, one, other),
                  ("moves", False, one, other), ("moves", 0, (0, 2, True), other), ("moves", 0, one, (True, 0, 2)), ("kinds", 0, one, other),
                  ("moves", 1, one, other), ("moves", 3, one, one), ("moves", 0, one, one), ("moves", 2, one, other),
                  ("moves", 0, (0, 2, 1, 3), (1, 0, 2, 3)), (None, 0, one, other), ("kinds", (-1, 2, 1, -1)), ("kinds", (0, 0, 0, 1))]
        for value in list(WRONG) + moves + shapes:
            self.assert_false(is_sign_paper(THREE, bad, value))

    def test_moves_outside_of_the_keeper(self):
        # N(H) of a subgroup with two moves of THREE has these two alone.
        row = (1, -1, -1, 1)
        for one, other in product(THREE.moves, repeat=2):
            self.assert_false(is_sign_paper(THREE, row, ("moves", 1, one, other)))


class Wrong(Case):

    def test_wrong_arguments(self):
        groups, row = (InvalidGroup, NO_GROUPS), (InvalidRow, NO_SIGNS)
        self.assert_refused(is_sign_row, (THREE, None), groups)
        self.assert_refused(sign_map, (THREE, (1, 1, 1, 1), 3), groups, row, (InvalidNumber, NO_INDICES))
        self.assert_refused(sign_paper, (THREE, (1, 1, 1, 1)), groups, row)
        self.assert_refused(is_sign_paper, (THREE, (1, 1, 1, 1), None), groups, row)
        for call in (sign_basis, sign_count, half_rows, first_of(each_sign_row)):
            self.assert_refused(call, (THREE,), groups)
        self.assert_refused(part_row, (THREE, (0, -1, LONG, 2)), groups, (InvalidKinds, NO_ROWS))

    def test_errors_when_the_first_element_is_requested(self):
        rows = each_sign_row(None)
        self.assert_raises(InvalidGroup, next, rows)


class NotTrue(Case):

    def test_part_rows(self):
        found = {part_row(FIVE, tuple(bits)) for bits in product((0, 1), repeat=9)}
        self.assertEqual((len(found), sign_count(FIVE)), (8, 32))
        self.assertLess(found, set(each_sign_row(FIVE)))

    def test_map_at_the_class_of_the_unit(self):
        row = (1, 1, 1, 1, -1)
        self.assertEqual(unlike(map_of(EVEN, row, 0)), set())
        self.assert_false(is_sign_row(EVEN, row))

    def test_equally_many_halves(self):
        self.assertEqual((len(half_rows(SQUARE)), len(half_rows(PAIRS))), (3, 3))
        self.assertEqual((sign_count(SQUARE), sign_count(PAIRS)), (32, 16))

    def test_square_of_a_row(self):
        # [0.18]: the squares of rows of signs are ones; a group without a half can have more than two sign rows.
        self.assert_false(is_mark_row(THREE, (1, 1, -1, 1)))
        self.assert_true(is_mark_row(THREE, (1, 1, 1, 1)))
        self.assertEqual((half_rows(EVEN), sign_count(EVEN)), ((), 4))


if __name__ == "__main__":
    unittest.main()
