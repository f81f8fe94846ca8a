"""[5.1] to [5.5]: commutators, levels, perfect subgroups, and cores at primes."""

import unittest

from helpers import (ALONE, Case, FIVE, MIRRORS, NO_GROUPS, NO_PRIMES, NO_SUBGROUPS, PAIRS, QUATER, SQUARE, THREE, TWENTY, WRONG,
                     back, double_group, first_of, made, many_turning, times, turned_by)
from movemarks.errors import InvalidGroup, InvalidNumber, InvalidSubgroup
from movemarks.lattice import steps
from movemarks.lattice.steps import (commutators, core_at, core_classes, does_come_down, down_paper, each_level, firm_classes,
                                     is_down_paper, is_firm, is_perfect, last_step, levels, perfect_classes, step_classes)
from movemarks.lattice.subgroups import class_of, classes, is_kept, small_group, subgroups, turned
from movemarks.move.groups import Group, beside
from movemarks.move.moves import order_of

DOUBLE = double_group()
EVERY = Group.every(5)
SMALL = (THREE, SQUARE, PAIRS, QUATER, TWENTY, ALONE, MIRRORS, Group.even(4), Group.turning(12), many_turning(2, 2, 2))
GREAT = (Group.every(4), FIVE, EVERY, DOUBLE, beside(FIVE, Group.turning(2)), many_turning(3, 3, 3), Group.mirrors(12))
UNIT, FLIP = ((0, 1, 2),), ((0, 1, 2), (0, 2, 1))
TURNS = ((0, 1, 2), (1, 2, 0), (2, 0, 1))
PRIMES = (2, 3, 5, 7, 97)


def some_subgroups(group):
    told = subgroups(group)
    return told[:3] + told[3::1 + len(told) // 25] + told[-1:]


def plain_commutators(group, subgroup):
    return made(group.places, tuple({times(times(one, other), times(back(one), back(other)))
                                     for one in subgroup for other in subgroup}))


def keeps(top, low):
    return set(low) <= set(top) and all(turned_by(low, move) == low for move in top)


class Levels(Case):

    def test_constants(self):
        self.assertEqual((steps.CHAIN, steps.PERFECT), ("chain", "perfect"))

    def test_commutators(self):
        for group in SMALL + GREAT:
            for one in some_subgroups(group):
                right = plain_commutators(group, one)
                self.assertEqual(commutators(group, one), right)
                self.assertIs(is_perfect(group, one), right == one)
                self.assertEqual(right == group.moves[:1], small_group(group, one).is_commutative)
                self.assertTrue(keeps(one, right))

    def test_levels(self):
        for group in SMALL + GREAT:
            for one in some_subgroups(group):
                right = [one]
                while plain_commutators(group, right[-1]) != right[-1]:
                    right.append(plain_commutators(group, right[-1]))
                self.assertEqual(levels(group, one), tuple(right))
                self.assertEqual(last_step(group, one), right[-1])
                self.assertIs(does_come_down(group, one), len(right[-1]) == 1)
        self.assertEqual([len(level) for level in levels(EVERY, EVERY.moves)], [120, 60])
        self.assertEqual([len(level) for level in levels(Group.every(4), Group.every(4).moves)], [24, 12, 4, 1])

    def test_last_step_is_the_greatest_perfect_subgroup(self):
        for group in SMALL + (FIVE, DOUBLE, EVERY, GREAT[4]):
            perfect = [one for one in subgroups(group) if plain_commutators(group, one) == one]
            self.assertTrue(all(len(one) == 1 or len(one) >= 60 for one in perfect))
            for one in some_subgroups(group):
                within = [other for other in perfect if set(other) <= set(one)]
                self.assertEqual(last_step(group, one), max(within, key=len))
                for other in within:
                    self.assertLessEqual(set(other), set(last_step(group, one)))

    def test_turned_levels(self):
        for group in (THREE, SQUARE, Group.even(4), FIVE):
            for one in some_subgroups(group):
                by = group.moves[-2 % group.order]
                self.assertEqual(levels(group, turned(group, one, by)), tuple(turned_by(level, by) for level in levels(group, one)))

    def test_within(self):
        for group in (Group.every(4), EVERY):
            for one in some_subgroups(group):
                for other in some_subgroups(group):
                    if set(one) <= set(other):
                        self.assertLessEqual(set(last_step(group, one)), set(last_step(group, other)))

    def test_classes(self):
        for group in SMALL + GREAT:
            first = classes(group)
            self.assertEqual(perfect_classes(group), tuple(at for at, one in enumerate(first) if is_perfect(group, one)))
            self.assertEqual(step_classes(group), tuple(class_of(group, last_step(group, one)) for one in first))
        self.assertEqual([perfect_classes(group) for group in (THREE, ALONE, FIVE, DOUBLE)], [(0,), (0,), (0, 8), (0, 11)])
        self.assertEqual((step_classes(ALONE), step_classes(THREE), step_classes(DOUBLE)), ((0,), (0,) * 4, (0,) * 11 + (11,)))
        self.assertEqual(len(perfect_classes(EVERY)), 2)

    def test_each_level(self):
        for group in SMALL + GREAT:
            self.assertEqual(list(each_level(group)), [(at, len(levels(group, one))) for at, one in enumerate(classes(group))])
        self.assertEqual(list(each_level(ALONE)), [(0, 1)])
        self.assertEqual(list(each_level(THREE)), [(0, 1), (1, 2), (2, 2), (3, 3)])


class Cores(Case):

    def test_cores(self):
        for group in SMALL + GREAT[:2]:
            for one in some_subgroups(group):
                for prime in PRIMES:
                    right = made(group.places, tuple(move for move in one if order_of(move) % prime))
                    self.assertEqual(core_at(group, one, prime), right)
                    self.assertIs(is_firm(group, one, prime), right == one)
                    self.assertTrue(keeps(one, right))
                    self.assert_true(is_firm(group, right, prime))
                    self.assertEqual(last_step(group, right), last_step(group, one))
                    if len(one) % prime:
                        self.assertEqual(right, one)

    def test_core_is_the_least_kept_one_with_a_power_of_the_prime(self):
        for group in (THREE, SQUARE, MIRRORS, TWENTY, Group.even(4), Group.every(4)):
            told = subgroups(group)
            for one in some_subgroups(group):
                for prime in (2, 3, 5):
                    powers = [prime ** k for k in range(7)]
                    right = [low for low in told if keeps(one, low) and len(one) // len(low) in powers]
                    self.assertEqual(core_at(group, one, prime), right[0])
                    self.assertTrue(all(set(right[0]) <= set(low) for low in right))

    def test_perfect_ones_are_firm(self):
        for group in (FIVE, DOUBLE, EVERY, ALONE):
            for index in perfect_classes(group):
                for prime in PRIMES:
                    self.assert_true(is_firm(group, classes(group)[index], prime))

    def test_classes(self):
        for group in SMALL + GREAT:
            first = classes(group)
            for prime in PRIMES:
                self.assertEqual(firm_classes(group, prime), tuple(at for at, one in enumerate(first) if is_firm(group, one, prime)))
                self.assertEqual(core_classes(group, prime), tuple(class_of(group, core_at(group, one, prime)) for one in first))
        self.assertEqual((firm_classes(ALONE, 2), core_classes(ALONE, 97)), ((0,), (0,)))
        # A prime that divides the order of no group here.
        self.assertEqual((firm_classes(FIVE, 97), core_classes(FIVE, 89)), (tuple(range(9)), tuple(range(9))))


def chains(group, top):
    """All chains from a subgroup to the unit alone, told anew."""
    waiting, found = [(top,)], []
    told = subgroups(group)
    while waiting:
        chain = waiting.pop()
        found.extend([chain] if len(chain[-1]) == 1 else [])
        waiting.extend(chain + (low,) for low in told
                       if keeps(chain[-1], low) and len(chain[-1]) // len(low) in (2, 3, 5, 7))
    return found


class Papers(Case):

    def test_papers(self):
        for group in SMALL + GREAT:
            for one in some_subgroups(group):
                paper = down_paper(group, one)
                self.assertEqual(paper[0], "chain" if does_come_down(group, one) else "perfect")
                self.assert_true(is_down_paper(group, one, paper))
                if paper[0] == "chain":
                    self.assertEqual((paper[1][0], paper[1][-1]), (one, group.moves[:1]))
                    for top, low in zip(paper[1], paper[1][1:]):
                        self.assertTrue(keeps(top, low) and len(top) // len(low) in (2, 3, 5, 7, 11))
                else:
                    self.assertTrue(set(paper[1]) <= set(one) and len(paper[1]) > 1 and is_perfect(group, paper[1]))
        self.assertEqual(down_paper(ALONE, ALONE.moves), ("chain", (((0,),),)))
        self.assertEqual(down_paper(THREE, UNIT), ("chain", (UNIT,)))

    def test_all_chains_are_right(self):
        for group in (THREE, SQUARE, PAIRS, MIRRORS, QUATER, Group.even(4)):
            for one in subgroups(group):
                right = chains(group, one)
                self.assertIn(down_paper(group, one)[1], right)
                for chain in right:
                    self.assert_true(is_down_paper(group, one, ("chain", chain)))

    def test_wrong_chains(self):
        whole = THREE.moves
        self.assert_true(is_down_paper(THREE, whole, ("chain", (whole, TURNS, UNIT))))
        for chain in ((), (whole,), (UNIT,), (whole, UNIT), (whole, FLIP, UNIT), (whole, TURNS), (TURNS, UNIT), (whole, whole, TURNS, UNIT),
                      (whole, TURNS, TURNS, UNIT), (whole, TURNS, UNIT, UNIT), [whole, TURNS, UNIT], (whole, TURNS, UNIT, None),
                      (list(whole), TURNS, UNIT), (whole, tuple(reversed(TURNS)), UNIT), (whole, TURNS, ((0, True, 2),)),
                      (whole, TURNS, ((False, 1, 2),)), (UNIT, TURNS, whole), (THREE, TURNS, UNIT), whole, (whole, FLIP, TURNS, UNIT)):
            self.assert_false(is_down_paper(THREE, whole, ("chain", chain)))
        square = SQUARE.moves
        for chain in chains(SQUARE, square):
            for at in range(len(chain)):
                self.assert_false(is_down_paper(SQUARE, square, ("chain", chain[:at] + chain[at + 1:])))
                self.assert_false(is_down_paper(SQUARE, square, ("perfect", chain[at])))
        # Two moves of SQUARE that four moves keep, and not all eight.
        low = ((0, 1, 2, 3), (0, 3, 2, 1))
        self.assert_false(is_down_paper(SQUARE, square, ("chain", (square, low, SQUARE.moves[:1]))))

    def test_perfect_papers(self):
        even, unit = FIVE.moves, FIVE.moves[:1]
        self.assert_true(is_down_paper(EVERY, EVERY.moves, ("perfect", even)))
        self.assert_true(is_down_paper(FIVE, even, ("perfect", even)))
        for value in (unit, EVERY.moves, even[:12], list(even), tuple(reversed(even)), (), None, FIVE, (even,)):
            self.assert_false(is_down_paper(EVERY, EVERY.moves, ("perfect", value)))
        for word in ("Perfect", "perfect ", "", "chain", True, None, even):
            self.assert_false(is_down_paper(EVERY, EVERY.moves, (word, even)))
        self.assert_false(is_down_paper(EVERY, unit, ("perfect", even)))
        self.assert_false(is_down_paper(THREE, THREE.moves, ("perfect", UNIT)))
        self.assert_false(is_down_paper(THREE, THREE.moves, ("perfect", THREE.moves)))
        self.assert_false(is_down_paper(EVERY, EVERY.moves, ("chain", (EVERY.moves, even, unit))))
        self.assert_false(is_down_paper(EVERY, EVERY.moves, ("chain", (EVERY.moves, even))))

    def test_other_values(self):
        paper = ("chain", (THREE.moves, TURNS, UNIT))
        for value in WRONG + ((), ("chain",), paper + (None,), list(paper), ("chain", None), ("perfect", None), ("perfect",),
                              (True, paper[1]), ("Chain", paper[1]), (paper[1], "chain"), (None, paper[1]), ("chain", 3),
                              ("perfect", 0), ("perfect", "chain"), ("chain", "perfect"), (THREE, THREE), ("", paper[1])):
            self.assert_false(is_down_paper(THREE, THREE.moves, value))


class Wrong(Case):

    def test_wrong_arguments(self):
        groups, within, primes = (InvalidGroup, NO_GROUPS), (InvalidSubgroup, NO_SUBGROUPS), (InvalidNumber, NO_PRIMES)
        for call in (commutators, last_step, levels, is_perfect, does_come_down, down_paper):
            self.assert_refused(call, (THREE, FLIP), groups, within)
        for call in (perfect_classes, step_classes, first_of(each_level)):
            self.assert_refused(call, (THREE,), groups)
        for call in (core_at, is_firm):
            self.assert_refused(call, (THREE, FLIP, 2), groups, within, primes)
        for call in (firm_classes, core_classes):
            self.assert_refused(call, (THREE, 97), groups, primes)
        self.assert_refused(is_down_paper, (THREE, FLIP, None), groups, within)


class NotTrue(Case):

    def test_equally_many_moves(self):
        sixes = [len(levels(MIRRORS, one)) for one in classes(MIRRORS) if len(one) == 6]
        self.assertEqual(sorted(set(sixes)), [2, 3])

    def test_two_levels(self):
        self.assertEqual((len(levels(PAIRS, PAIRS.moves)), PAIRS.order), (2, 4))

    def test_firm_with_the_prime(self):
        even = Group.even(4)
        self.assert_true(is_firm(even, even.moves, 2))
        self.assertEqual(even.order % 2, 0)

    def test_all_but_the_group(self):
        self.assertTrue(all(does_come_down(FIVE, one) for one in classes(FIVE)[:-1]))
        self.assert_false(does_come_down(FIVE, FIVE.moves))
        self.assertTrue(is_kept(FIVE, FIVE.moves))


if __name__ == "__main__":
    unittest.main()
