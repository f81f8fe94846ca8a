"""[0.17] and [15.1] to [15.6]: equal counts at single moves, and tables that go along."""

import unittest
from fractions import Fraction
from itertools import product

from helpers import (ALONE, Case, FIVE, MIRRORS, NO_GROUPS, NO_ROWS, NO_SETS, PAIRS, QUATER, SQUARE, THREE, TWENTY, WRONG,
                     double_group, made, many_turning, times)
from movemarks.base.tables import determinant, rank
from movemarks.equal import singles
from movemarks.equal.singles import (apart, are_equal_counts, counts_of, does_go_along, equal_lattice, equal_paper, is_equal_kinds,
                                     is_equal_paper, pair_parts, single_classes, single_marks)
from movemarks.errors import InvalidGroup, InvalidKinds, InvalidOperation, InvalidSet
from movemarks.lattice.subgroups import class_of, classes
from movemarks.mark.marks import kinds_of, marks_of
from movemarks.move.groups import Group, beside
from movemarks.point.sets import MovedSet

LONG = 10 ** 60 - 1
EVEN = Group.even(4)
GROUPS = (THREE, SQUARE, PAIRS, QUATER, ALONE, Group.turning(12), EVEN, TWENTY, FIVE, Group.every(4), MIRRORS, many_turning(2, 2, 4),
          many_turning(3, 3, 3), Group.every(5), double_group(), beside(SQUARE, Group.turning(2)))
ONE, OTHER = MovedSet.of_kinds(PAIRS, (1, 0, 0, 0, 2)), MovedSet.of_kinds(PAIRS, (0, 1, 1, 1, 0))
PLACES, CORNERS = MovedSet.places_of(THREE), MovedSet.places_of(PAIRS)


def single_of(group):
    """The indices of the classes of what single moves make, told anew."""
    return tuple(sorted({class_of(group, made(group.places, (move,))) for move in group.moves}))


def points(group, many):
    """A set of so many points that all moves leave."""
    return MovedSet.of_kinds(group, (0,) * (len(classes(group)) - 1) + (many,))


def sets_of(group, most):
    """All sets with at most so many points, one for each kinds, for few classes."""
    sizes = [group.order // len(first) for first in classes(group)]
    ranges = [range(most // size + 1) for size in sizes]
    return [MovedSet.of_kinds(group, kinds) for kinds in product(*ranges)
            if sum(many * size for many, size in zip(kinds, sizes)) <= most]


def moved_pairs(one, other, pair):
    return {(one.led(move, pair[0]), other.led(move, pair[1])) for move in one.group}


def is_invertible(table):
    """Whether the determinant is not 0, told by fractions."""
    rows = [[Fraction(entry) for entry in row] for row in table]
    if any(len(row) != len(rows) for row in rows):
        return False
    for at in range(len(rows)):
        top = next((below for below in range(at, len(rows)) if rows[below][at]), None)
        if top is None:
            return False
        rows[at], rows[top] = rows[top], rows[at]
        for below in range(at + 1, len(rows)):
            times_over = rows[below][at] / rows[at][at]
            rows[below] = [entry - times_over * above for entry, above in zip(rows[below], rows[at])]
    return True


def goes_along(one, other, table):
    return all(table[one.led(move, low)][other.led(move, high)] == table[low][high]
               for move in one.group for low in range(one.size) for high in range(other.size))


class Counts(Case):

    def test_constants(self):
        self.assertEqual((singles.MAX_PAIRED, singles.MOST_ENTRY), (12, 1000))

    def test_single_classes(self):
        for group in GROUPS:
            self.assertEqual(single_classes(group), single_of(group))
        self.assertEqual((single_classes(ALONE), single_classes(FIVE)), ((0,), (0, 1, 2, 4)))

    def test_single_marks(self):
        for group in GROUPS:
            many = len(classes(group))
            for seed in range(4):
                kinds = tuple((seed * at + at * at) % 7 - 3 for at in range(many))
                row = marks_of(group, kinds)
                self.assertEqual(single_marks(group, kinds), tuple(row[index] for index in single_of(group)))
        self.assertEqual(single_marks(THREE, (LONG, 0, 0, -LONG)), (5 * LONG, -LONG, -LONG))

    def test_counts(self):
        # [15.1], by moving the points one by one.
        for group in (THREE, SQUARE, PAIRS, ALONE, EVEN, FIVE, QUATER):
            for moved in (MovedSet.places_of(group), points(group, 7), points(group, 0), MovedSet.of_cosets(group, classes(group)[0])):
                told = tuple(sum(moved.led(move, point) == point for point in range(moved.size)) for move in group.moves)
                self.assertEqual(counts_of(moved), told)
                at_moves = [class_of(group, made(group.places, (move,))) for move in group.moves]
                self.assertEqual(told, tuple(moved.marks[index] for index in at_moves))
        self.assertEqual((counts_of(points(ALONE, 0)), counts_of(points(THREE, 0))), ((0,), (0,) * 6))

    def test_equal_counts(self):
        for group in (THREE, PAIRS, EVEN):
            found = sets_of(group, 8 if group is not EVEN else 12)
            for one in found:
                for other in found[::3]:
                    self.assertIs(are_equal_counts(one, other), counts_of(one) == counts_of(other))
                    if are_equal_counts(one, other):
                        # [15.4]
                        self.assertEqual((one.size, len(one.parts())), (other.size, len(other.parts())))
        self.assert_true(are_equal_counts(ONE, OTHER))
        self.assertNotEqual(sorted(map(len, ONE.parts())), sorted(map(len, OTHER.parts())))
        self.assert_false(are_equal_counts(ONE, CORNERS))
        self.assert_true(are_equal_counts(MovedSet.places_of(Group.every(3)), PLACES))


class Kinds(Case):

    def test_lattice(self):
        # [0.17] and [15.3]
        for group in GROUPS:
            many, told = len(classes(group)), equal_lattice(group)
            self.assertEqual(len(told), many - len(single_of(group)))
            leads = []
            for row in told:
                self.assertEqual(len(row), many)
                self.assertEqual(set(single_marks(group, row)), {0})
                self.assert_true(is_equal_kinds(group, row))
                leads.append(next(at for at in range(many) if row[at]))
                self.assertGreater(row[leads[-1]], 0)
                self.assertEqual(max(divisor for divisor in range(1, 130) if all(member % divisor == 0 for member in row)), 1)
            self.assertEqual(leads, sorted(set(leads)))
            for at, row in enumerate(told):
                self.assertEqual([bool(row[lead]) for lead in leads], [other == at for other in range(len(told))])
            if told:
                self.assertEqual(rank(told), len(told))
        self.assertEqual((equal_lattice(ALONE), equal_lattice(Group.turning(12))), ((), ()))
        self.assertEqual(equal_lattice(PAIRS), ((1, -1, -1, -1, 2),))

    def test_equal_kinds(self):
        for group in (THREE, PAIRS, ALONE):
            for kinds in product(range(-2, 3), repeat=len(classes(group))):
                marks = marks_of(group, kinds)
                self.assertIs(is_equal_kinds(group, kinds), all(marks[index] == 0 for index in single_of(group)))
        for row in equal_lattice(SQUARE):
            for other in equal_lattice(SQUARE):
                self.assert_true(is_equal_kinds(SQUARE, tuple(5 * a - 7 * b for a, b in zip(row, other))))
                self.assert_true(is_equal_kinds(SQUARE, tuple(10 ** 200 * a + b for a, b in zip(row, other))))
        self.assert_false(is_equal_kinds(THREE, (10 ** 99, -2 * 10 ** 99, -10 ** 99, 2 * 10 ** 99 + 1)))

    def test_values(self):
        self.assert_true(is_equal_kinds(THREE, (0, 0, 0, 0)))
        for value in tuple(value for value in NO_ROWS if value != (0, 0, 0, 0)) + (
                (1, -2, -1), (1, -2, -1, 2, 0), [1, -2, -1, 2], (True, -2, -1, 2), (False, 0, 0, 0), (0, 0, 0, None), ((1, -2, -1, 2),)):
            self.assert_false(is_equal_kinds(THREE, value))
        self.assert_false(is_equal_kinds(ALONE, (1,)))
        self.assert_false(is_equal_kinds(ALONE, (False,)))

    def test_difference_of_sets(self):
        # Sets have equal counts exactly if the difference of their kinds is equal kinds.
        for group in (THREE, PAIRS, SQUARE):
            found = sets_of(group, 6)
            for one in found[::2]:
                for other in found[::3]:
                    less = tuple(a - b for a, b in zip(one.kinds, other.kinds))
                    self.assertIs(are_equal_counts(one, other), is_equal_kinds(group, less))

    def test_apart(self):
        for kinds in product(range(-2, 3), repeat=4):
            plus, less = apart(THREE, kinds)
            self.assertEqual(plus, tuple(max(many, 0) for many in kinds))
            self.assertEqual(less, tuple(max(-many, 0) for many in kinds))
        self.assertEqual(apart(THREE, (LONG, -LONG, 0, 1)), ((LONG, 0, 0, 1), (0, LONG, 0, 0)))
        for group in (PAIRS, SQUARE, EVEN):
            for row in equal_lattice(group):
                one, other = (MovedSet.of_kinds(group, kinds) for kinds in apart(group, row))
                self.assert_true(are_equal_counts(one, other))
                self.assertNotEqual(one.kinds, other.kinds)


class Along(Case):

    def test_all_tables(self):
        one, other = points(PAIRS, 1) + MovedSet.of_kinds(PAIRS, (0, 1, 0, 0, 0)), MovedSet.of_kinds(PAIRS, (0, 0, 1, 0, 0))
        for entries in product(range(3), repeat=6):
            table = (entries[:2], entries[2:4], entries[4:])
            self.assertIs(does_go_along(one, other, table), goes_along(one, other, table))

    def test_tables_of_parts(self):
        for one, other in ((PLACES, PLACES), (CORNERS, ONE), (ONE, OTHER), (PLACES, points(THREE, 3)), (MovedSet.of_cosets(THREE, THREE.moves[:1]), PLACES)):
            parts = pair_parts(one, other)
            entry = {pair: 5 * at - 3 for at, part in enumerate(parts) for pair in part}
            table = [[entry[low, high] for high in range(other.size)] for low in range(one.size)]
            self.assert_true(does_go_along(one, other, tuple(map(tuple, table))))
            for low in range(one.size):
                for high in range(other.size):
                    near = [list(row) for row in table]
                    near[low][high] += 1
                    right = len(next(part for part in parts if (low, high) in part)) == 1
                    self.assertIs(does_go_along(one, other, tuple(map(tuple, near))), right)
            longer = tuple(tuple(10 ** 120 * number for number in row) for row in table)
            self.assert_true(does_go_along(one, other, longer))

    def test_other_makers(self):
        # The sets have equal groups with unlike makers.
        places = MovedSet.places_of(Group(3, ((2, 0, 1), (0, 1, 2), (0, 2, 1))))
        for table in product(product((0, 1), repeat=3), repeat=3):
            right = goes_along(PLACES, places, table)
            self.assertIs(does_go_along(PLACES, places, table), right)
            self.assertIs(does_go_along(places, PLACES, table), right)

    def test_sets_without_points(self):
        none, two = points(THREE, 0), points(THREE, 2)
        self.assert_true(does_go_along(none, none, ()))
        self.assert_true(does_go_along(none, two, ()))
        self.assert_true(does_go_along(two, none, ((), ())))
        for one, other, value in ((none, none, ((),)), (none, two, ((),)), (two, none, ()), (two, none, ((),)), (two, none, ((1,), (1,))),
                                  (two, none, [(), ()]), (two, none, ([], [])), (none, none, [])):
            self.assert_false(does_go_along(one, other, value))

    def test_values(self):
        good = ((1, 0, 0), (0, 1, 0), (0, 0, 1))
        self.assert_true(does_go_along(PLACES, PLACES, good))
        for value in WRONG + NO_ROWS + (good[:2], good + good[:1], list(good), ([1, 0, 0],) + good[1:], ((1, 0),) * 3, ((1, 0, 0, 0),) * 3,
                                        ((True, 0, 0), (0, True, 0), (0, 0, True)), ((1, False, 0),) + good[1:], (None,) * 3, ((None,) * 3,) * 3,
                                        ((1, 0, 0), (0, 1, 0), (0, 0, 2)), ((1, 0, 0), (0, 1, 0), (0, 1, 1)), (("1", 0, 0),) + good[1:],
                                        (((1,), 0, 0),) + good[1:], "abc", ("abc",) * 3, {0: good[0]}, (good,)):
            self.assert_false(does_go_along(PLACES, PLACES, value))

    def test_parts(self):
        for one, other in ((PLACES, PLACES), (CORNERS, CORNERS), (ONE, OTHER), (points(THREE, 3), PLACES), (points(THREE, 0), PLACES),
                           (PLACES, points(THREE, 0)), (MovedSet.places_of(FIVE), MovedSet.places_of(FIVE)), (points(SQUARE, 5), points(SQUARE, 12))):
            told = pair_parts(one, other)
            right = {tuple(sorted(moved_pairs(one, other, pair))) for pair in product(range(one.size), range(other.size))}
            self.assertEqual(told, tuple(sorted(right)))
        self.assertEqual(pair_parts(points(THREE, 0), points(THREE, 60)), ())

    def test_sixty_pairs(self):
        self.assertEqual(len(pair_parts(points(THREE, 6), points(THREE, 10))), 60)
        self.assertEqual(len(pair_parts(points(THREE, 60), points(THREE, 1))), 60)
        # 61 is a prime number, and no set has 61 points, so the next ones have 62 pairs.
        self.assert_too_many(60, pair_parts, points(THREE, 2), points(THREE, 31))
        self.assert_too_many(60, pair_parts, points(THREE, 60), points(THREE, 60))
        self.assert_raises(InvalidOperation, pair_parts, points(THREE, 60), points(SQUARE, 60))


class Papers(Case):

    def judged(self, one, other):
        """Asks for a right paper on two sets."""
        paper = equal_paper(one, other)
        self.assertEqual(len(paper), 2)
        self.assert_true(is_equal_paper(one, other, paper))
        if counts_of(one) == counts_of(other):
            self.assertEqual(paper[0], "table")
            self.assertTrue(all(0 <= entry <= 1000 for row in paper[1] for entry in row))
            self.assertEqual(len(paper[1]), one.size)
            self.assertTrue(goes_along(one, other, paper[1]) and is_invertible(paper[1]))
        else:
            at = one.group.moves.index(paper[1])
            self.assertEqual(paper[0], "move")
            self.assertNotEqual(counts_of(one)[at], counts_of(other)[at])

    def test_all_sets_of_few_points(self):
        for group in (THREE, PAIRS, Group.turning(4), ALONE):
            found = sets_of(group, 6)
            for one in found:
                for other in found[::2] + [one]:
                    self.judged(one, other)

    def test_unlike_sets_with_equal_counts(self):
        # Sets that single moves do not tell apart, with as many points as there can be.
        for group, most in ((PAIRS, 12), (EVEN, 12), (SQUARE, 8), (THREE, 12), (MIRRORS, 12), (many_turning(2, 2, 2), 8), (TWENTY, 12)):
            told = {}
            sizes = [group.order // len(first) for first in classes(group)]
            for row in equal_lattice(group):
                one, other = apart(group, row)
                size = sum(many * size for many, size in zip(one, sizes))
                if size <= most:
                    told[row] = (MovedSet.of_kinds(group, one), MovedSet.of_kinds(group, other))
            for one, other in told.values():
                self.judged(one, other)
                self.judged(other, one)
                rest = points(group, 12 - one.size)
                self.judged(one + rest, rest + other)

    def test_twelve_points(self):
        for group in (THREE, SQUARE, PAIRS, FIVE, Group.every(5), EVEN, ALONE, double_group()):
            self.judged(points(group, 12), points(group, 12))
            self.judged(points(group, 12), points(group, 11))
            self.judged(points(group, 0), points(group, 0))
        places = MovedSet.places_of(FIVE)
        self.judged(places + places + points(FIVE, 2), points(FIVE, 2) + places + places)
        twelve = MovedSet.of_cosets(FIVE, made(5, ((1, 2, 3, 4, 0),)))
        self.assertEqual(twelve.size, 12)
        self.judged(twelve, twelve)
        whole = MovedSet.of_cosets(EVEN, EVEN.moves[:1])
        self.judged(whole, whole)

    def test_thirteen_points(self):
        twelve, thirteen = points(THREE, 12), points(THREE, 13)
        for one, other in ((twelve, thirteen), (thirteen, twelve), (thirteen, thirteen)):
            self.assert_too_many(12, equal_paper, one, other)
            self.assert_too_many(12, is_equal_paper, one, other, None)
        self.assert_raises(InvalidOperation, equal_paper, thirteen, points(SQUARE, 13))
        self.assert_raises(InvalidOperation, is_equal_paper, thirteen, points(SQUARE, 13), None)

    def test_all_moves(self):
        for one, other in ((ONE, CORNERS), (ONE, OTHER), (PLACES, points(THREE, 3)), (PLACES, PLACES), (points(THREE, 2), PLACES)):
            for at, move in enumerate(one.group.moves):
                self.assertIs(is_equal_paper(one, other, ("move", move)), counts_of(one)[at] != counts_of(other)[at])

    def test_all_tables(self):
        for low, high in product(range(-2, 3), repeat=2):
            table = tuple(tuple(low if at == other else high for other in range(3)) for at in range(3))
            self.assertIs(is_equal_paper(PLACES, PLACES, ("table", table)), determinant(table) != 0)
        for entries in product(range(2), repeat=9):
            table = (entries[:3], entries[3:6], entries[6:])
            right = goes_along(PLACES, PLACES, table) and determinant(table) != 0
            self.assertIs(is_equal_paper(PLACES, PLACES, ("table", table)), right)
        long = tuple(tuple(10 ** 300 + 1 if at == other else -10 ** 200 for other in range(3)) for at in range(3))
        self.assert_true(is_equal_paper(PLACES, PLACES, ("table", long)))
        flat = tuple(tuple(-2 * 10 ** 200 if at == other else 10 ** 200 for other in range(3)) for at in range(3))
        self.assert_true(does_go_along(PLACES, PLACES, flat))
        self.assert_false(is_equal_paper(PLACES, PLACES, ("table", flat)))

    def test_unlike_sizes(self):
        one, other = points(THREE, 2), points(THREE, 3)
        self.assert_true(does_go_along(one, other, ((1, 2, 3), (4, 5, 6))))
        self.assert_false(is_equal_paper(one, other, ("table", ((1, 2, 3), (4, 5, 6)))))
        self.assert_false(is_equal_paper(other, one, ("table", ((1, 2), (3, 4), (5, 7)))))
        self.assert_false(is_equal_paper(points(THREE, 0), one, ("table", ())))
        self.assert_false(is_equal_paper(one, points(THREE, 0), ("table", ((), ()))))
        self.assert_true(is_equal_paper(points(THREE, 0), points(THREE, 0), ("table", ())))

    def test_wrong_papers(self):
        good = ((1, 0, 0), (0, 1, 0), (0, 0, 1))
        self.assert_true(is_equal_paper(PLACES, PLACES, ("table", good)))
        tables = [("table", value) for value in WRONG + ((), good[:2], list(good), ((True, 0, 0),) + good[1:], ((1, 0),) * 3, ((1, 1, 1),) * 3)]
        shapes = [("table",), ("table", good, 0), ["table", good], ("Table", good), (good, "table"), ("move", good), (True, good), good, ()]
        for value in list(WRONG) + tables + shapes + [("move", move) for move in THREE.moves]:
            self.assert_false(is_equal_paper(PLACES, PLACES, value))
        other = points(THREE, 3)
        self.assert_true(is_equal_paper(PLACES, other, ("move", (0, 2, 1))))
        moves = [("move", value) for value in WRONG if value != (0, 1, 2)]
        shapes = [("move",), ("move", (0, 2, 1), 0), ["move", (0, 2, 1)], ("Move", (0, 2, 1)), ("move", [0, 2, 1]), ("move", (0, 2, True)),
                  ("move", (0, 2, 1, 3)), ("move", (False, 2, 1)), ("move", 1), ("table", (0, 2, 1)), ("table", good), ("move", ((0, 2, 1),))]
        for value in list(WRONG) + moves + shapes:
            self.assert_false(is_equal_paper(PLACES, other, value))


class Wrong(Case):

    def test_wrong_groups_and_kinds(self):
        groups, kinds = (InvalidGroup, NO_GROUPS), (InvalidKinds, NO_ROWS)
        self.assert_refused(single_classes, (THREE,), groups)
        self.assert_refused(equal_lattice, (THREE,), groups)
        self.assert_refused(is_equal_kinds, (THREE, None), groups)
        self.assert_refused(single_marks, (THREE, (0, -1, LONG, 2)), groups, kinds)
        self.assert_refused(apart, (THREE, (0, -1, LONG, 2)), groups, kinds)

    def test_wrong_sets(self):
        wrong = (InvalidSet, NO_SETS)
        self.assert_refused(counts_of, (PLACES,), wrong)
        for call in (are_equal_counts, equal_paper, pair_parts):
            self.assert_refused(call, (PLACES, PLACES), wrong, wrong)
        for call in (is_equal_paper, does_go_along):
            self.assert_refused(call, (PLACES, PLACES, None), wrong, wrong)

    def test_unlike_groups(self):
        square = MovedSet.places_of(SQUARE)
        longer = MovedSet.places_of(Group(4, ((1, 0, 2, 3), (1, 2, 0, 3))))
        for other in (square, longer):
            for call in (are_equal_counts, equal_paper, pair_parts):
                self.assert_raises(InvalidOperation, call, PLACES, other)
                self.assert_raises(InvalidSet, call, None, other)
            for call in (is_equal_paper, does_go_along):
                self.assert_raises(InvalidOperation, call, PLACES, other, None)
                self.assert_raises(InvalidSet, call, PLACES, None, None)


class NotTrue(Case):

    def test_sets_with_equal_counts_are_alike(self):
        self.assertTrue(are_equal_counts(ONE, OTHER) and ONE.kinds != OTHER.kinds)
        self.assertEqual(kinds_of(PAIRS, ONE.marks), (1, 0, 0, 0, 2))

    def test_equally_many_classes(self):
        self.assertEqual((len(classes(PAIRS)), len(classes(EVEN))), (5, 5))
        self.assertEqual((len(equal_lattice(PAIRS)), len(equal_lattice(EVEN))), (1, 2))

    def test_one_maker(self):
        table = ((1, 0, 0), (0, 1, 0), (0, 0, 2))
        self.assertTrue(all(table[THREE.makers[0][low]][THREE.makers[0][high]] == table[low][high] for low in range(3) for high in range(3)))
        self.assert_false(does_go_along(PLACES, PLACES, table))
        self.assertNotEqual(times(*THREE.makers), times(*THREE.makers[::-1]))


if __name__ == "__main__":
    unittest.main()
