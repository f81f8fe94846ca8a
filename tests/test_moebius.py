"""[16.1] to [16.6]: chains of subgroups, Moebius numbers, and how a group is made."""

import unittest
from functools import reduce
from itertools import product

from helpers import (ALONE, Case, FIVE, MIRRORS, NO_GROUPS, NO_PRIMES, NO_SUBGROUPS, PAIRS, QUATER, SQUARE, THREE, TWENTY,
                     double_group, first_of, made, many_turning)
from movemarks.errors import InvalidGroup, InvalidNumber, InvalidOperation, InvalidSubgroup
from movemarks.lattice import moebius as module
from movemarks.lattice.moebius import (chain_counts, chain_sum, common_part, each_making, is_meet, least_makers, making_powers, makings,
                                       moebius, moebius_row)
from movemarks.lattice.subgroups import class_members, classes, maximal, subgroups
from movemarks.made.quotients import behind, quotient_group
from movemarks.move.groups import Group, beside

WIDE = beside(Group.even(4), Group.turning(2))
EVEN, EVERY, DOUBLE = Group.even(4), Group.every(4), double_group()
SMALL = (THREE, SQUARE, PAIRS, QUATER, ALONE, Group.turning(12), EVEN, TWENTY, MIRRORS)
GREAT = (FIVE, EVERY, WIDE, many_turning(2, 2, 2), many_turning(3, 3, 3), Group.mirrors(15), DOUBLE, Group.every(5), beside(EVERY, Group.turning(5)),
         beside(EVEN, PAIRS))
NO_MANY = tuple(value for value in NO_PRIMES if value not in (0, 1, 4, 9)) + (31, 32, (0,), -1)


def chains(group, low, high):
    """All chains from the one subgroup up to the other one, told anew."""
    if low == high:
        return [(low,)]
    above = [one for one in subgroups(group) if set(low) < set(one) and set(one) <= set(high)]
    return [(low,) + chain for one in above for chain in chains(group, one, high)]


def numbers(group, high):
    """The dict from the subgroups that lie in one to their numbers mu, told anew from below by sums that are 0."""
    found = {high: 1}
    for low in reversed([one for one in subgroups(group) if set(one) < set(high)]):
        found[low] = -sum(number for one, number in found.items() if set(low) < set(one))
    return found


def pairs_of(group):
    return [(low, high) for low in subgroups(group) for high in subgroups(group) if set(low) <= set(high)]


class Chains(Case):

    def test_constants(self):
        self.assertEqual((module.MAX_MAKERS, module.MAX_TUPLES), (30, 4000))

    def test_chains(self):
        # [16.1]
        for group in SMALL:
            for low, high in pairs_of(group):
                lengths = [len(chain) - 1 for chain in chains(group, low, high)]
                told = chain_counts(group, low, high)
                self.assertEqual(told, {length: lengths.count(length) for length in set(lengths)})
                self.assertEqual(list(told), sorted(told))
                self.assertEqual(moebius(group, low, high), sum((-1) ** length for length in lengths))

    def test_sums_are_zero(self):
        for group in GREAT:
            told = subgroups(group)
            for high in told[::1 + len(told) // 6] + told[-1:]:
                right = numbers(group, high)
                for low in list(right)[::1 + len(right) // 12]:
                    self.assertEqual(moebius(group, low, high), right[low])
                    counts = chain_counts(group, low, high)
                    self.assertEqual(sum(many * (-1) ** length for length, many in counts.items()), right[low])
                    self.assertEqual(list(counts), list(range(min(counts), max(counts) + 1)))
        self.assertEqual(moebius(FIVE, FIVE.moves[:1], FIVE.moves), -60)
        self.assertEqual((chain_counts(THREE, THREE.moves, THREE.moves), chain_counts(ALONE, ALONE.moves, ALONE.moves)), ({0: 1}, {0: 1}))

    def test_rows(self):
        # [16.4]
        for group in SMALL + GREAT:
            told = numbers(group, group.moves)
            self.assertEqual(moebius_row(group), tuple(told[first] for first in classes(group)))
            for index in range(len(classes(group))):
                self.assertEqual({told[one] for one in class_members(group, index)}, {moebius_row(group)[index]})
        self.assertEqual(moebius_row(ALONE), (1,))

    def test_quotients(self):
        # [16.4]
        for group in (SQUARE, PAIRS, EVEN, TWENTY, MIRRORS, EVERY, WIDE):
            for index, first in enumerate(classes(group)):
                if len(class_members(group, index)) == 1 and group.order // len(first) < 25:
                    quotient = quotient_group(group, first)
                    told = chain_counts(quotient, quotient.moves[:1], quotient.moves)
                    self.assertEqual(chain_counts(group, first, group.moves), told)
                    self.assertEqual(moebius_row(group)[index], moebius_row(quotient)[0])
                    for one in classes(quotient):
                        self.assertEqual(moebius(group, behind(group, first, one), group.moves), moebius(quotient, one, quotient.moves))

    def test_chains_of_prime_powers(self):
        # [16.5]
        for group in SMALL + (FIVE, EVERY, WIDE):
            for prime in (2, 3, 5, 7, 97):
                powers = [prime ** many for many in range(1, 8)]
                told = [one for one in subgroups(group) if len(one) in powers]
                total = sum((-1) ** (len(chain) - 1) for one in told for other in told if set(one) <= set(other)
                            for chain in chains(group, one, other))
                self.assertEqual(chain_sum(group, prime), total)

    def test_rest_by_the_part(self):
        for group in SMALL + GREAT:
            for prime in (2, 3, 5, 7):
                part = 1
                while group.order % (part * prime) == 0:
                    part *= prime
                if part == 1:
                    self.assertEqual(chain_sum(group, prime), 0)
                else:
                    self.assertEqual((chain_sum(group, prime) - 1) % part, 0)
        self.assertEqual([chain_sum(ALONE, prime) for prime in (2, 97)], [0, 0])
        self.assertEqual((chain_sum(Group.turning(9), 3), chain_sum(Group.turning(23), 23)), (1, 1))


class Makings(Case):

    def test_all_tuples(self):
        # [16.2], told by what each tuple makes.
        for group, most in ((THREE, 4), (SQUARE, 3), (PAIRS, 4), (QUATER, 3), (ALONE, 5), (EVEN, 3), (Group.turning(12), 2), (TWENTY, 2), (FIVE, 2)):
            for many in range(most + 1):
                if group.order ** many <= 4000:
                    right = [one for one in product(group.moves, repeat=many) if len(made(group.places, one)) == group.order]
                    self.assertEqual(list(each_making(group, many)), right)
                    self.assertEqual(makings(group, many), len(right))

    def test_sum_over_subgroups(self):
        for group in SMALL + GREAT:
            told = numbers(group, group.moves)
            for many in (0, 1, 2, 3, 7, 30):
                right = sum(number * len(one) ** many for one, number in told.items())
                self.assertEqual(makings(group, many), right)
                self.assertEqual(sum(number * size ** many for size, number in making_powers(group)), right)
        self.assertEqual(makings(DOUBLE, 2), 9120)
        self.assertGreater(makings(Group.every(5), 30), 10 ** 60)

    def test_all_subgroups_together(self):
        # |G| ** k is the sum of the makings of all subgroups.
        for group in (THREE, SQUARE, EVEN, TWENTY):
            for many in (0, 1, 2, 5):
                total = sum(makings(Group(group.places, one[1:7] if len(one) < 8 else group.makers), many)
                            for one in subgroups(group) if len(one) < 8 or len(one) == group.order)
                left = [one for one in subgroups(group) if 8 <= len(one) < group.order]
                total += sum(makings(Group(group.places, one[1:5]), many) for one in left)
                self.assertEqual(total, group.order ** many)

    def test_powers(self):
        for group in SMALL + GREAT:
            told = numbers(group, group.moves)
            sizes = sorted({len(one) for one in told})
            sums = [(size, sum(number for one, number in told.items() if len(one) == size)) for size in sizes]
            self.assertEqual(making_powers(group), tuple(pair for pair in sums if pair[1]))
        self.assertEqual((making_powers(ALONE), making_powers(Group.turning(4))), (((1, 1),), ((2, -1), (4, 1))))

    def test_least_makers(self):
        for group in SMALL + GREAT:
            least = least_makers(group)
            self.assertGreater(makings(group, least), 0)
            self.assertEqual([makings(group, many) for many in range(least)], [0] * least)
        self.assertEqual((least_makers(ALONE), least_makers(Group.turning(24)), least_makers(many_turning(2, 2, 2))), (0, 1, 3))
        self.assertEqual((least_makers(EVEN), least_makers(WIDE), least_makers(beside(EVEN, PAIRS))), (2, 2, 2))

    def test_numbers_of_moves(self):
        for many in (0, 1, 30):
            self.assertEqual((makings(ALONE, many), list(each_making(ALONE, many))), (1, [((0,),) * many]))
        self.assertEqual((makings(THREE, 0), list(each_making(THREE, 0))), (0, []))
        self.assertEqual(makings(Group.turning(2), 30), 2 ** 30 - 1)
        for call in (makings, first_of(each_making)):
            self.assert_number(31, call, ALONE, 31)
            self.assert_number(-1, call, ALONE, -1)

    def test_four_thousand_tuples(self):
        # 15 ** 3 is 3375, and 16 ** 3 is 4096; 2 ** 11 is 2048, and 2 ** 12 is 4096.
        for group, many in ((Group.turning(2), 11), (Group.turning(15), 3), (Group.turning(21), 2), (FIVE, 2)):
            self.assertEqual(len(list(each_making(group, many))), makings(group, many))
            self.assertLessEqual(group.order ** many, 4000)
        for group, many in ((Group.turning(2), 12), (Group.turning(16), 3), (THREE, 30), (Group.every(5), 2), (Group.turning(2), 30),
                            (many_turning(4, 4), 3)):
            self.assertGreater(group.order ** many, 4000)
            self.assert_too_many(4000, first_of(each_making), group, many)

    def test_sixty_three_moves(self):
        # 63 and 64 moves: the last number of moves with at most 4000 pairs, and the next one.
        group = many_turning(7, 9)
        self.assertEqual((group.order, len(list(each_making(group, 2)))), (63, makings(group, 2)))
        group = beside(Group.turning(8), Group.turning(8))
        self.assertEqual(group.order, 64)
        self.assert_too_many(4000, first_of(each_making), group, 2)


class Meets(Case):

    def test_meets(self):
        # [16.3], with all meets of maximal subgroups told one by one.
        for group in SMALL + GREAT:
            tops = [frozenset(one) for one in maximal(group, group.moves)]
            meets = {frozenset(group.moves)}
            for top in tops:
                meets = meets | {meet & top for meet in meets}
            for one in subgroups(group):
                self.assertIs(is_meet(group, one), frozenset(one) in meets)
            row = moebius_row(group)
            for index, first in enumerate(classes(group)):
                if row[index] != 0:
                    self.assert_true(is_meet(group, first))
            self.assertEqual(common_part(group), tuple(sorted(reduce(frozenset.intersection, tops, frozenset(group.moves)))))
        self.assertEqual((is_meet(ALONE, ALONE.moves), common_part(ALONE)), (True, ALONE.moves))

    def test_moves_that_can_be_left_out(self):
        for group in (SQUARE, QUATER, PAIRS, Group.turning(8), Group.turning(12)):
            whole = group.order
            right = tuple(move for move in group.moves if all(
                len(made(group.places, some)) == whole for some in product(group.moves, repeat=2)
                if len(made(group.places, some + (move,))) == whole))
            self.assertEqual(common_part(group), right)


class Wrong(Case):

    def test_wrong_arguments(self):
        groups, subgroup, primes = (InvalidGroup, NO_GROUPS), (InvalidSubgroup, NO_SUBGROUPS), (InvalidNumber, NO_PRIMES)
        for call in (moebius, chain_counts):
            self.assert_refused(call, (THREE, THREE.moves[:1], THREE.moves), groups, subgroup, subgroup)
        for call in (moebius_row, making_powers, least_makers, common_part):
            self.assert_refused(call, (THREE,), groups)
        self.assert_refused(makings, (THREE, 30), groups, (InvalidNumber, NO_MANY))
        self.assert_refused(first_of(each_making), (THREE, 4), groups, (InvalidNumber, NO_MANY))
        self.assert_refused(is_meet, (THREE, THREE.moves), groups, subgroup)
        self.assert_refused(chain_sum, (THREE, 97), groups, primes)

    def test_subgroups_that_do_not_lie_in_one_another(self):
        flip, turns = made(3, ((0, 2, 1),)), made(3, ((1, 2, 0),))
        for low, high in ((THREE.moves, flip), (flip, turns), (turns, flip), (flip, THREE.moves[:1]), (flip, made(3, ((1, 0, 2),)))):
            for call in (moebius, chain_counts):
                self.assert_raises(InvalidOperation, call, THREE, low, high)
                self.assert_raises(InvalidGroup, call, None, low, high)
                self.assert_raises(InvalidSubgroup, call, THREE, low, high[1:])
                self.assert_raises(InvalidSubgroup, call, THREE, low[1:], high)

    def test_errors_when_the_first_element_is_requested(self):
        for passed, error in (((None, 31), InvalidGroup), ((THREE, 31), InvalidNumber)):
            told = each_making(*passed)
            self.assert_raises(error, next, told)


class NotTrue(Case):

    def test_numbers_other_than_one(self):
        self.assertEqual(moebius(THREE, THREE.moves[:1], THREE.moves), 3)

    def test_makers_of_a_subgroup(self):
        eight = next(one for one in subgroups(WIDE) if len(one) == 8)
        self.assertEqual(least_makers(Group(WIDE.places, eight[1:6])), 3)
        self.assertEqual(least_makers(WIDE), 2)

    def test_meets_with_the_number_zero(self):
        self.assertEqual((moebius_row(TWENTY)[0], is_meet(TWENTY, TWENTY.moves[:1])), (0, True))


if __name__ == "__main__":
    unittest.main()
