"""[0.10] to [0.12] and [6.1] to [6.5]: sets with moves."""

import unittest
from itertools import permutations, product

from helpers import ALONE, Case, FIVE, NO_GROUPS, NO_SETS, PAIRS, QUATER, SQUARE, THREE, TWENTY, WRONG, many_turning, times
from movemarks.errors import (InvalidGroup, InvalidKinds, InvalidMove, InvalidOperation, InvalidSet, InvalidSubgroup)
from movemarks.lattice.subgroups import class_of, classes, cosets, subgroups, turned
from movemarks.move.groups import Group
from movemarks.point import sets
from movemarks.point.sets import MovedSet, is_match_paper, match_paper

UNIT, FLIP = ((0, 1, 2),), ((0, 1, 2), (0, 2, 1))
TURNS = ((0, 1, 2), (1, 2, 0), (2, 0, 1))
THREE_ANEW = Group(3, ((0, 2, 1), (1, 0, 2), (0, 1, 2)))
PLACES, CORNERS = MovedSet.places_of(THREE), MovedSet.places_of(PAIRS)
EMPTY = MovedSet(THREE, 0, ((), ()))
NO_KINDS = tuple(value for value in WRONG) + (
    (), (0, 1, 0), (0, 1, 0, 0, 0), [0, 1, 0, 0], (0, 1, 0, True), (0, 1, 0, None), (10 ** 60, 0, 0, 0), "0100", (0, 1, 0, -1),
    (-1, 0, 0, 0), (0, -10 ** 59, 0, 0), {0: 1}, (0, (1,), 0, 0), (False, 1, 0, 0))


def some_sets():
    """Sets with moves of many groups."""
    found = [EMPTY, PLACES, CORNERS, PLACES + PLACES, PLACES * PLACES, CORNERS * CORNERS, MovedSet.places_of(FIVE)]
    for group in (THREE, SQUARE, PAIRS, QUATER, TWENTY, ALONE, Group.even(4), Group.turning(12), many_turning(2, 2, 2)):
        found.append(MovedSet.places_of(group))
        found.extend(MovedSet.of_cosets(group, subgroup) for subgroup in subgroups(group))
        kinds = tuple((index + 1) % 3 if group.order * (index + 1) < 60 else 0 for index in range(len(classes(group))))
        found.append(MovedSet.of_kinds(group, kinds) if group.order < 13 and len(kinds) < 7 else EMPTY)
    return found


def leads_of(moved):
    """The rearrangement of the points by each move, told anew by words."""
    leads = {}
    for move in moved.group.moves:
        lead = tuple(range(moved.size))
        for index in moved.group.word(move):
            lead = times(lead, moved.actions[index])
        leads[move] = lead
    return leads


def plain_marks(moved):
    leads = leads_of(moved)
    return tuple(len([point for point in range(moved.size) if all(leads[move][point] == point for move in first)])
                 for first in classes(moved.group))


class Made(Case):

    def test_constant(self):
        self.assertEqual(sets.MOST_POINTS, 60)

    def test_led(self):
        for moved in some_sets():
            for move, lead in leads_of(moved).items():
                self.assertEqual(tuple(moved.led(move, point) for point in range(moved.size)), lead)

    def test_products_are_followed(self):
        for moved in some_sets()[::4]:
            for one in moved.group.moves[::3]:
                for other in moved.group.moves[::2]:
                    for point in range(moved.size):
                        self.assertEqual(moved.led(times(one, other), point), moved.led(one, moved.led(other, point)))

    def test_parts_and_stabilizers(self):
        for moved in some_sets():
            parts = {tuple(sorted({moved.led(move, point) for move in moved.group.moves})) for point in range(moved.size)}
            self.assertEqual(moved.parts(), tuple(sorted(parts)))
            for part in moved.parts():
                for point in part:
                    stabilizer = tuple(move for move in moved.group.moves if moved.led(move, point) == point)
                    self.assertEqual(moved.stabilizer(point), stabilizer)
                    self.assertEqual(len(part) * len(stabilizer), moved.group.order)
                    for move in moved.group.moves[::5]:
                        self.assertEqual(moved.stabilizer(moved.led(move, point)), turned(moved.group, stabilizer, move))

    def test_kinds_and_marks(self):
        for moved in some_sets():
            found = [class_of(moved.group, moved.stabilizer(part[0])) for part in moved.parts()]
            self.assertEqual(moved.kinds, tuple(found.count(index) for index in range(len(classes(moved.group)))))
            self.assertEqual(moved.marks, plain_marks(moved))
            self.assertEqual((moved.marks[0], sum(moved.kinds)), (moved.size, len(moved.parts())))
            for subgroup in subgroups(moved.group):
                still = tuple(point for point in range(moved.size)
                              if all(moved.led(move, point) == point for move in subgroup))
                self.assertEqual(moved.still(subgroup), still)
                self.assertEqual(len(still), moved.marks[class_of(moved.group, subgroup)])

    def test_properties(self):
        for name in ("group", "size", "actions", "kinds", "marks"):
            self.assertIsInstance(MovedSet.__dict__[name], property)
            with self.assertRaises(AttributeError):
                setattr(PLACES, name, 1)
        self.assertEqual((PLACES.group, PLACES.size, PLACES.actions), (THREE, 3, ((1, 0, 2), (1, 2, 0))))

    def test_texts_and_sizes(self):
        self.assertEqual([str(PLACES + PLACES), str(EMPTY), str(MovedSet.of_kinds(THREE, (0, 1, 1, 0)))],
                         ["set of 6 points in 2 parts", "set of 0 points in 0 parts", "set of 5 points in 2 parts"])
        self.assertEqual([len(EMPTY), len(PLACES), len(MovedSet.of_cosets(FIVE, FIVE.moves[:1]))], [0, 3, 60])

    def test_not_iterated(self):
        self.assertRaises(TypeError, iter, PLACES)
        self.assertRaises(TypeError, list, EMPTY)
        self.assertRaises(TypeError, lambda: 0 in PLACES)


class Cosets(Case):

    def test_of_cosets(self):
        for group in (THREE, SQUARE, FIVE, QUATER, TWENTY):
            for subgroup in subgroups(group)[::2]:
                moved, told = MovedSet.of_cosets(group, subgroup), cosets(group, subgroup)
                self.assertEqual(len(moved), len(told))
                for maker, action in zip(group.makers, moved.actions):
                    led = [tuple(sorted(times(maker, move) for move in coset)) for coset in told]
                    self.assertEqual(action, tuple(told.index(coset) for coset in led))
                self.assertEqual(moved.kinds[class_of(group, subgroup)], 1)
                self.assertEqual(sum(moved.kinds), 1)
        moved = MovedSet.of_cosets(THREE, TURNS)
        self.assertEqual([moved.actions, moved.kinds, moved.marks], [((1, 0), (0, 1)), (0, 0, 1, 0), (2, 0, 2, 0)])

    def test_sixty_cosets(self):
        every = Group.every(5)
        self.assertEqual(MovedSet.of_cosets(every, next(one for one in subgroups(every) if len(one) == 2)).size, 60)
        self.assert_too_many(60, MovedSet.of_cosets, every, every.moves[:1])
        self.assertEqual(MovedSet.of_cosets(FIVE, FIVE.moves[:1]).size, 60)

    def test_of_kinds(self):
        for group, most in ((THREE, 2), (PAIRS, 1), (Group.turning(4), 3)):
            for kinds in product(range(most + 1), repeat=len(classes(group))):
                moved = MovedSet.of_kinds(group, kinds)
                self.assertEqual(moved.kinds, kinds)
                whole = MovedSet(group, 0, ((),) * len(group.makers))
                for first, many in zip(classes(group), kinds):
                    for _ in range(many):
                        whole = whole + MovedSet.of_cosets(group, first)
                self.assertEqual(moved.actions, whole.actions)
        self.assertEqual([MovedSet.of_kinds(THREE, (0, 1, 0, 1)).actions, len(MovedSet.of_kinds(THREE, (1, 0, 0, 0)))],
                         [((1, 0, 2, 3), (1, 2, 0, 3)), 6])

    def test_sixty_points(self):
        for kinds in ((10, 0, 0, 0), (0, 0, 0, 60), (9, 1, 1, 1), (0, 20, 0, 0)):
            self.assertEqual(MovedSet.of_kinds(THREE, kinds).size, 60)
        for kinds in ((10, 0, 0, 1), (0, 0, 0, 61), (11, 0, 0, 0), (10 ** 60 - 1, 0, 0, 0), (0, 0, 0, 10 ** 59)):
            self.assert_too_many(60, MovedSet.of_kinds, THREE, kinds)

    def test_places_of(self):
        for group in (THREE, SQUARE, FIVE, ALONE, Group(24, ())):
            moved = MovedSet.places_of(group)
            self.assertEqual((moved.group, moved.size, moved.actions), (group, group.places, group.makers))


class Refused(Case):

    def test_wrong_groups(self):
        for value in NO_GROUPS:
            self.assert_raises(InvalidGroup, MovedSet, value, 1, ((0,),))
            self.assert_raises(InvalidGroup, MovedSet, value, 61, None)
            self.assert_raises(InvalidGroup, MovedSet.of_cosets, value, UNIT)
            self.assert_raises(InvalidGroup, MovedSet.of_cosets, value, None)
            self.assert_raises(InvalidGroup, MovedSet.of_kinds, value, (1, 0, 0, 0))
            self.assert_raises(InvalidGroup, MovedSet.of_kinds, value, None)
            self.assert_raises(InvalidGroup, MovedSet.places_of, value)

    def test_wrong_sizes(self):
        for size in WRONG + (61, 10 ** 59, "2", (2,)):
            self.assert_number(size, MovedSet, THREE, size, ((1, 0), (0, 1)))
            self.assert_number(size, MovedSet, THREE, size, None)

    def test_wrong_actions(self):
        for actions in WRONG + ((), ((1, 0),), ((1, 0), (0, 1), (0, 1)), [(1, 0), (0, 1)], ([1, 0], (0, 1)), ((1, 0), (0, 2)),
                                ((1, 0), (0, 0)), ((1, 0, 2), (1, 2, 0)), ((True, 0), (0, 1)), ((1, 0), (False, 1)),
                                ((1, 0), None), ((1, 0), (0,)), ((), ()), ((1, 0), (-1, 0)), (1, 0), (0, 1), "10"):
            self.assert_raises(InvalidSet, MovedSet, THREE, 2, actions)
        for actions in ((), ((),), ((), (), ()), ((0,), (0,)), None, [(), ()]):
            self.assert_raises(InvalidSet, MovedSet, THREE, 0, actions)

    def test_actions_that_are_no_set(self):
        # The swap is undone by itself, the turn done three times is the unit, and so is the swap behind the turn, twice.
        for size in (1, 2, 3):
            for swap in permutations(range(size)):
                for turn in permutations(range(size)):
                    unit = tuple(range(size))
                    both = times(swap, turn)
                    right = times(swap, swap) == times(turn, times(turn, turn)) == times(both, both) == unit
                    if right:
                        self.assertEqual(MovedSet(THREE, size, (swap, turn)).actions, (swap, turn))
                    else:
                        self.assert_raises(InvalidSet, MovedSet, THREE, size, (swap, turn))
        self.assert_raises(InvalidSet, MovedSet, THREE, 2, ((1, 0), (1, 0)))
        self.assert_raises(InvalidSet, MovedSet, Group(2, ((0, 1),)), 2, ((1, 0),))
        self.assert_raises(InvalidSet, MovedSet, Group(2, ((1, 0), (1, 0))), 2, ((1, 0), (0, 1)))
        self.assertEqual(MovedSet(ALONE, 60, ()).kinds, (60,))

    def test_wrong_subgroups(self):
        for value in WRONG + (FLIP[::-1], FLIP[1:], (), SQUARE.moves, list(FLIP), ((0, True, 2),)):
            self.assert_raises(InvalidSubgroup, MovedSet.of_cosets, THREE, value)
            self.assert_raises(InvalidSubgroup, PLACES.still, value)

    def test_wrong_kinds(self):
        for kinds in NO_KINDS:
            self.assert_raises(InvalidKinds, MovedSet.of_kinds, THREE, kinds)
        self.assert_raises(InvalidKinds, MovedSet.of_kinds, THREE, (10 ** 59, 0, 0, -1))

    def test_wrong_moves_and_points(self):
        for move in WRONG + ((0, 1), (1, 0, 2, 3), (True, 0, 2), [1, 0, 2], 0):
            self.assert_raises(InvalidMove, PLACES.led, move, 0)
            self.assert_raises(InvalidMove, PLACES.led, move, 3)
            self.assert_raises(InvalidMove, PLACES.led, move, None)
        for point in WRONG + (3, 60, (0,), "0"):
            self.assert_number(point, PLACES.led, (1, 0, 2), point)
            self.assert_number(point, PLACES.stabilizer, point)
        self.assert_number(0, EMPTY.stabilizer, 0)
        self.assert_number(0, EMPTY.led, (1, 0, 2), 0)


class Operators(Case):

    def test_sums(self):
        for one in some_sets():
            for other in some_sets():
                if one.group == other.group and len(one) + len(other) < 20:
                    whole = one + other
                    for maker, action in zip(one.group.makers, whole.actions):
                        led = [one.led(maker, point) for point in range(one.size)]
                        led += [one.size + other.led(maker, point) for point in range(other.size)]
                        self.assertEqual(action, tuple(led))
                    for row in ("kinds", "marks"):
                        self.assertEqual(getattr(whole, row),
                                         tuple(map(sum, zip(getattr(one, row), getattr(other, row)))))

    def test_products(self):
        for one in some_sets()[::2]:
            for other in some_sets():
                if one.group == other.group and len(one) * len(other) < 25:
                    whole = one * other
                    self.assertEqual(whole.size, one.size * other.size)
                    for move in one.group.moves[::2]:
                        for point in range(one.size):
                            for partner in range(other.size):
                                self.assertEqual(whole.led(move, point * other.size + partner),
                                                 one.led(move, point) * other.size + other.led(move, partner))
                    self.assertEqual(whole.marks, tuple(mark * more for mark, more in zip(one.marks, other.marks)))

    def test_makers_of_the_one(self):
        anew = MovedSet.places_of(THREE_ANEW)
        for whole in (PLACES + anew, PLACES * anew, PLACES * EMPTY):
            self.assertEqual((whole.group.makers, len(whole.actions)), (THREE.makers, 2))
        for whole in (anew + PLACES, anew * PLACES, anew * EMPTY):
            self.assertEqual((whole.group.makers, len(whole.actions)), (THREE_ANEW.makers, 3))
        self.assertEqual((anew + PLACES).actions[0], (0, 2, 1, 3, 5, 4))
        self.assertEqual((PLACES + anew).actions[1], (1, 2, 0, 4, 5, 3))
        self.assertEqual((PLACES * anew).marks, (9, 1, 0, 0))

    def test_wrong_groups(self):
        for call in (lambda one, other: one + other, lambda one, other: one * other):
            self.assert_raises(InvalidOperation, call, PLACES, CORNERS)
            self.assert_raises(InvalidOperation, call, MovedSet(THREE, 60, (tuple(range(60)),) * 2), CORNERS)

    def test_too_many_points(self):
        thirty = MovedSet.of_kinds(THREE, (5, 0, 0, 0))
        self.assertEqual([(thirty + thirty).size, (thirty * MovedSet.of_kinds(THREE, (0, 0, 0, 2))).size], [60, 60])
        self.assert_too_many(60, lambda: thirty + thirty + MovedSet.of_kinds(THREE, (0, 0, 0, 1)))
        self.assert_too_many(60, lambda: thirty * PLACES)

    def test_other_operands(self):
        for value in NO_SETS:
            for call in (lambda: PLACES + value, lambda: value + PLACES, lambda: PLACES * value, lambda: value * PLACES,
                         lambda: PLACES - PLACES, lambda: PLACES < PLACES):
                self.assertRaises(TypeError, call)

    def test_equal(self):
        self.assert_true(MovedSet.places_of(THREE_ANEW) == PLACES)
        self.assert_false(MovedSet.places_of(THREE_ANEW) != PLACES)
        self.assert_true(MovedSet.of_cosets(THREE, FLIP) == PLACES)
        self.assert_false(MovedSet.of_cosets(THREE, ((0, 1, 2), (1, 0, 2))) == PLACES)
        self.assert_false(PLACES + MovedSet.of_cosets(THREE, TURNS) == MovedSet.of_cosets(THREE, TURNS) + PLACES)
        self.assert_false(MovedSet(PAIRS, 0, ((), ())) == EMPTY)
        self.assert_false(MovedSet(Group(2, ()), 3, ()) == MovedSet(ALONE, 3, ()))
        for value in NO_SETS:
            self.assert_false(PLACES == value)
            self.assert_true(PLACES != value)


class Matches(Case):

    def assert_right(self, one, other, paper):
        """Asks for a right paper, judged anew."""
        if paper[0] == "class":
            self.assertNotEqual(one.marks[paper[1]], other.marks[paper[1]])
        else:
            self.assertEqual(sorted(paper[1]), list(range(one.size)))
            for move in one.group.moves:
                for point in range(one.size):
                    self.assertEqual(paper[1][one.led(move, point)], other.led(move, paper[1][point]))
        self.assertEqual((paper.__class__, len(paper)), (tuple, 2))
        self.assert_true(is_match_paper(one, other, paper))

    def test_papers(self):
        for one in some_sets():
            for other in some_sets()[::2]:
                if one.group == other.group:
                    paper = match_paper(one, other)
                    self.assertEqual(paper[0], "map" if one.marks == other.marks else "class")
                    self.assert_right(one, other, paper)

    def test_great_papers(self):
        one = MovedSet.of_kinds(FIVE, (0, 0, 1, 1, 1, 1, 0, 0, 3))
        other = MovedSet(ALONE, 60, ())
        self.assert_right(one, one, match_paper(one, one))
        self.assert_right(other, other, match_paper(other, other))
        mixed = MovedSet.of_kinds(FIVE, (0,) * 8 + (3,))
        for index in (5, 3, 2, 4):
            mixed = mixed + MovedSet.of_cosets(FIVE, classes(FIVE)[index])
        self.assert_right(one, mixed, match_paper(one, mixed))
        self.assert_right(mixed, one, match_paper(mixed, one))

    def test_all_matches(self):
        swapped = MovedSet(PAIRS, 4, ((0, 1, 3, 2), (1, 0, 2, 3)))
        for one, other in ((PLACES, PLACES), (CORNERS, CORNERS), (CORNERS, swapped), (CORNERS, MovedSet(PAIRS, 4, ((0, 1, 2, 3),) * 2))):
            for match in permutations(range(one.size)):
                right = all(match[one.led(move, point)] == other.led(move, match[point])
                            for move in one.group.moves for point in range(one.size))
                self.assertIs(is_match_paper(one, other, ("map", match)), right)

    def test_all_classes(self):
        for one, other in ((PLACES, EMPTY), (PLACES, PLACES), (PLACES, MovedSet.of_cosets(THREE, TURNS)),
                           (PLACES, MovedSet.of_kinds(THREE, (0, 0, 0, 3)))):
            for index in range(4):
                self.assertIs(is_match_paper(one, other, ("class", index)), one.marks[index] != other.marks[index])

    def test_wrong_papers(self):
        for value in WRONG + (("map",), ("map", None), ("map", [0, 1, 2]), ["map", (0, 1, 2)], ("map", (0, 1, 2), 0),
                              ("map", (0, True, 2)), ("map", (False, 1, 2)), ("map", (0, 1)), ("map", (0, 1, 2, 3)),
                              ("map", ()), ("map", (0, 0, 2)), ("map", (1, 0, 2)), ("class", 0), ("class", 4), ("class", -1),
                              ("class", None), ("class",), ("class", True), "map", (PLACES, PLACES), ("none",), (0, 1, 2)):
            self.assert_false(is_match_paper(PLACES, PLACES, value))
        one, other = MovedSet.of_kinds(THREE, (0, 0, 0, 3)), PLACES
        self.assert_true(is_match_paper(one, other, ("class", 1)))
        for index in (True, -3, 10 ** 60, 10 ** 99, "1", (1,), 4, None, 0):
            self.assert_false(is_match_paper(one, other, ("class", index)))
        self.assert_true(is_match_paper(EMPTY, EMPTY, ("map", ())))
        self.assert_false(is_match_paper(PLACES, EMPTY, ("map", ())))
        self.assert_false(is_match_paper(PLACES, PLACES + PLACES, ("map", (0, 1, 2))))

    def test_wrong_sets(self):
        for value in NO_SETS:
            self.assert_raises(InvalidSet, match_paper, value, PLACES)
            self.assert_raises(InvalidSet, match_paper, PLACES, value)
            self.assert_raises(InvalidSet, is_match_paper, value, PLACES, None)
            self.assert_raises(InvalidSet, is_match_paper, PLACES, value, ("class", 0))
        self.assert_raises(InvalidOperation, match_paper, PLACES, CORNERS)
        self.assert_raises(InvalidOperation, is_match_paper, CORNERS, PLACES, ("class", 0))

    def test_groups_with_other_makers(self):
        anew = MovedSet.places_of(THREE_ANEW)
        self.assertEqual(match_paper(PLACES, anew), match_paper(anew, anew))
        self.assert_right(PLACES, anew, match_paper(PLACES, anew))
        self.assert_right(anew, PLACES, match_paper(anew, PLACES))

    def test_what_is_not_true(self):
        one, other = MovedSet.of_kinds(PAIRS, (0, 2, 0, 0, 0)), CORNERS
        self.assertEqual((len(one), len(one.parts())), (len(other), len(other.parts())))
        self.assertEqual(match_paper(one, other)[0], "class")
        self.assertEqual((PLACES * PLACES).kinds, (1, 1, 0, 0))
        self.assertEqual(len({PLACES.stabilizer(point) for point in range(3)}), 3)
        self.assert_true(is_match_paper(CORNERS, CORNERS, ("map", (1, 0, 2, 3))))


if __name__ == "__main__":
    unittest.main()
