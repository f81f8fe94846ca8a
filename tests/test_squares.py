"""[0.15] and [13.1] to [13.6]: rows that are their own squares, rows at primes, and kinds of rows of ratios."""

import unittest
from fractions import Fraction
from itertools import product
from math import lcm

from helpers import (ALONE, Case, FIVE, MIRRORS, NO_GROUPS, NO_INDICES, NO_PRIMES, NO_ROWS, PAIRS, QUATER, SQUARE, THREE, TWENTY,
                     WRONG, cosets_of, double_group, first_of, made, many_turning)
from movemarks.base.integers import prime_factors
from movemarks.errors import InvalidGroup, InvalidNumber, InvalidOperation, InvalidRow
from movemarks.lattice.steps import core_classes, does_come_down, firm_classes, perfect_classes, step_classes
from movemarks.lattice.subgroups import class_of, classes, keeper, subgroups
from movemarks.mark.marks import kinds_of, mark_table, marks_of
from movemarks.mark.rows import is_mark_row, least_multiple
from movemarks.move.groups import Group, beside
from movemarks.square import squares
from movemarks.square.squares import (each_square, is_own_square, is_row_at, is_square_paper, kinds_of_ratios, part_bottom,
                                      part_kinds, square_kinds, square_paper, square_rows, square_rows_at)

LONG = 10 ** 60 - 1
DOUBLE, EVERY = double_group(), Group.every(5)
SMALL = (THREE, SQUARE, PAIRS, QUATER, ALONE, Group.turning(12), Group.even(4), TWENTY)
GREAT = (FIVE, DOUBLE, EVERY, beside(FIVE, Group.turning(2)), Group.every(4), MIRRORS, many_turning(3, 3, 3))
PRIMES = (2, 3, 5, 7, 97)


def bits(group):
    return product(range(2), repeat=len(classes(group)))


def some_bits(group):
    """Rows of zeros and ones: all of them for few classes."""
    many = len(classes(group))
    if many < 9:
        return list(bits(group))
    found = [(0,) * many, (1,) * many] + list(square_rows(group))
    for at in range(many):
        found.append((0,) * at + (1,) + (0,) * (many - at - 1))
        found.append((1,) * at + (0,) * (many - at))
        found.append(tuple((at * other * other + other) % 3 % 2 for other in range(many)))
    return found


def fractions_of(ratios):
    return [Fraction(top, bottom) for top, bottom in ratios]


def made_classes(group):
    """For each class the classes of what its first subgroup makes with its cosets in its keeper, told anew."""
    told = []
    for first in classes(group):
        within = [coset for coset in cosets_of(group, first) if coset[0] in keeper(group, first)]
        told.append([class_of(group, made(group.places, first + coset)) for coset in within])
    return told


class Squares(Case):

    def test_constants(self):
        self.assertEqual((squares.SUM, squares.STEPS), ("sum", "steps"))

    def test_all_rows_of_zeros_and_ones(self):
        for group in SMALL + (FIVE, MIRRORS):
            right = [row for row in bits(group) if is_mark_row(group, row)]
            self.assertEqual(list(each_square(group)), right)
            self.assertEqual(len(right), 2 ** len(perfect_classes(group)))
            for row in bits(group):
                self.assertIs(is_own_square(group, row), row in right)

    def test_two_exactly_if_the_group_comes_down(self):
        for group in SMALL + GREAT:
            found = list(each_square(group))
            self.assertEqual(found, sorted(set(found)))
            self.assertEqual(len(found) == 2, does_come_down(group, group.moves))
            self.assertEqual(len(found), 2 ** len(perfect_classes(group)))
            for row in found:
                self.assert_true(is_own_square(group, row))
                self.assert_true(is_mark_row(group, row))
            self.assertEqual((found[0], found[-1]), ((0,) * len(classes(group)), (1,) * len(classes(group))))

    def test_least_ones(self):
        for group in SMALL + GREAT:
            led, told = step_classes(group), square_rows(group)
            self.assertEqual(told, tuple(tuple(int(target == index) for target in led) for index in perfect_classes(group)))
            self.assertEqual(square_kinds(group), tuple(kinds_of(group, row) for row in told))
            self.assertEqual(tuple(map(sum, zip(*told))), (1,) * len(led))
        self.assertEqual(square_kinds(FIVE)[1], (-1, 2, 1, 0, 0, -1, -1, -1, 1))
        self.assertEqual((square_rows(ALONE), square_kinds(ALONE), list(each_square(ALONE))), (((1,),), ((1,),), [(0,), (1,)]))
        self.assertEqual(square_kinds(THREE), ((0, 0, 0, 1),))
        self.assertEqual(len(square_rows(DOUBLE)), 2)

    def test_values(self):
        self.assert_true(is_own_square(THREE, (1, 1, 1, 1)))
        for value in NO_ROWS + ((1, 1, 1, True), (False, 0, 0, 0), (True,) * 4, (2, 2, 2, 2), (-1, -1, -1, -1), (1, 1, 0, 0),
                                [1, 1, 1, 1], (1, 1, 1), (1,) * 5, (6, 0, 0, 0), (1, 1, 1, None), ((1, 1),) * 4, "1111"):
            self.assert_false(is_own_square(THREE, value))
        self.assert_true(is_own_square(ALONE, (0,)))
        self.assert_false(is_own_square(ALONE, (False,)))


class Papers(Case):

    def test_papers(self):
        for group in SMALL + GREAT:
            led, perfect = step_classes(group), perfect_classes(group)
            for row in some_bits(group)[:600]:
                paper = square_paper(group, row)
                self.assert_true(is_square_paper(group, row, paper))
                if is_mark_row(group, row):
                    self.assertEqual(paper, ("sum", tuple(index for index in perfect if row[index])))
                    total = [0] * len(row)
                    for index in paper[1]:
                        total = [one + more for one, more in zip(total, square_rows(group)[perfect.index(index)])]
                    self.assertEqual(tuple(total), row)
                else:
                    self.assertEqual((paper[0], len(paper)), ("steps", 3))
                    self.assertEqual(led[paper[1]], led[paper[2]])
                    self.assertNotEqual(row[paper[1]], row[paper[2]])

    def test_all_steps(self):
        for group in (THREE, SQUARE, FIVE, Group.even(4)):
            led = step_classes(group)
            many = len(led)
            for row in list(bits(group))[::1 + many * many // 2]:
                for one, other in product(range(many), repeat=2):
                    right = led[one] == led[other] and row[one] != row[other]
                    self.assertIs(is_square_paper(group, row, ("steps", one, other)), right)

    def test_all_sums(self):
        told = [(), (0,), (8,), (0, 8), (8, 0), (0, 0), (1,), (0, 1), (7, 8), (0, 8, 8), (-1,), (9,)]
        for row, right in zip([(0,) * 9, (1,) * 8 + (0,), (0,) * 8 + (1,), (1,) * 9], told):
            for indices in told:
                self.assertIs(is_square_paper(FIVE, row, ("sum", indices)), indices == right)
        for indices in told:
            self.assert_false(is_square_paper(FIVE, (0, 1) + (0,) * 7, ("sum", indices)))
            # The members at the perfect classes alone do not show it.
            self.assert_false(is_square_paper(FIVE, (1,) * 7 + (0, 1), ("sum", indices)))

    def test_wrong_papers(self):
        ones, bad = (1, 1, 1, 1), (1, 1, 0, 0)
        self.assert_true(is_square_paper(THREE, ones, ("sum", (0,))))
        self.assert_true(is_square_paper(THREE, bad, ("steps", 3, 1)))
        for value in WRONG + ((), ("sum",), ("sum", (0,), 0), ["sum", (0,)], ("sum", [0]), ("sum", (False,)), ("sum", 0), ("sum", None),
                              ("sum", ("0",)), ("sum", ((0,),)), ("sum", {0: 1}), ("Sum", (0,)), ((0,), "sum"), ("steps", (0,)),
                              ("steps", 0), ("steps", 0, 1), ("sum", (10 ** 99,)), (True, (0,)), (None, 0, 3)):
            self.assert_false(is_square_paper(THREE, ones, value))
        for value in WRONG + ((), ("steps",), ("steps", 1), ("steps", 1, 3, 0), ["steps", 1, 3], ("steps", True, 3), ("steps", 1, 4),
                              ("steps", -1, 1), ("steps", 1, -1), ("steps", 1, None), ("steps", 1, "3"), ("steps", (1, 3)), ("sum", 1, 3),
                              ("steps", 0, 1), ("steps", 2, 3), ("steps", 1, 1), ("steps", 10 ** 99, 1), ("steps", 1, 10 ** 99),
                              ("steps", [1], 3), (None, 1, 3), ("sum", (0,)), ("sum", ()), ("steps", False, 2)):
            self.assert_false(is_square_paper(THREE, bad, value))


class AtPrimes(Case):

    def test_least_ones(self):
        for group in SMALL + GREAT:
            for prime in PRIMES:
                led, told = core_classes(group, prime), square_rows_at(group, prime)
                self.assertEqual(told, tuple(tuple(int(target == index) for target in led) for index in firm_classes(group, prime)))
                self.assertEqual(tuple(map(sum, zip(*told))), (1,) * len(led))
                if len(led) < 12:
                    for row in told:
                        self.assert_true(is_row_at(group, prime, tuple((member, 1) for member in row)))
        many = len(classes(FIVE))
        self.assertEqual(square_rows_at(FIVE, 97), tuple(tuple(int(at == other) for other in range(many)) for at in range(many)))

    def test_all_rows_of_zeros_and_ones(self):
        for group in (THREE, SQUARE, PAIRS, ALONE, Group.even(4), QUATER):
            for prime in (2, 3, 5):
                led = core_classes(group, prime)
                for row in bits(group):
                    right = all(row[one] == row[other] for one in range(len(led)) for other in range(one) if led[one] == led[other])
                    self.assertIs(is_row_at(group, prime, tuple((member, 1) for member in row)), right)

    def test_rows_by_sums(self):
        for group in (THREE, SQUARE, PAIRS, Group.even(4), TWENTY):
            sums = made_classes(group)
            many = len(sums)
            for prime in PRIMES[:4]:
                for seed in range(60):
                    row = []
                    for at in range(many):
                        value = Fraction((seed * at * at + 3 * at + seed) % 13 - 4, (seed * (at + 1)) % 6 + 1)
                        row.append(value if seed % 3 else Fraction((seed + at) % 5 - 2) * prime ** (at % 3))
                    right = all(value.denominator % prime for value in row)
                    for members in sums if right else ():
                        part = prime ** prime_factors(len(members)).get(prime, 0)
                        right = right and sum(row[index] for index in members).numerator % part == 0
                    self.assertIs(is_row_at(group, prime, tuple((value.numerator, value.denominator) for value in row)), right)

    def test_mark_rows(self):
        # A row of integers is a mark row exactly if it is a row at each prime that divides the number of moves.
        for group in SMALL + (FIVE, EVERY):
            many = len(classes(group))
            for seed in range(12 if group.order < 60 else 3):
                kinds = tuple((seed * at + at * at) % 5 - 2 for at in range(many))
                row = marks_of(group, kinds)
                for change in (0, 1, 2, 3, 4, 6):
                    near = row[:seed % many] + (row[seed % many] + change,) + row[seed % many + 1:]
                    at_primes = [is_row_at(group, prime, tuple((member, 1) for member in near)) for prime in prime_factors(group.order)]
                    self.assertIs(all(at_primes), is_mark_row(group, near))
                    if change == 0:
                        self.assert_true(is_row_at(group, 97, tuple((member, 1) for member in near)))

    def test_bottoms(self):
        for prime in (2, 3, 5, 97):
            self.assert_false(is_row_at(THREE, prime, ((1, prime),) * 4))
            self.assert_false(is_row_at(THREE, prime, ((1, 1),) * 3 + ((1, 7 * prime),)))
            other = 3 if prime == 2 else 2
            self.assert_true(is_row_at(THREE, prime, ((1, other ** 300),) * 4))
            self.assert_true(is_row_at(THREE, prime, ((-10 ** 200, 11 ** 90),) * 4))
        self.assert_true(is_row_at(THREE, 5, ((1, 2), (3, 7), (-4, 9), (0, 1))))
        self.assert_true(is_row_at(ALONE, 2, ((5, 3),)))
        self.assert_false(is_row_at(ALONE, 2, ((5, 2),)))
        self.assert_true(is_row_at(THREE, 3, ((10 ** 99, 1),) * 4))

    def test_values(self):
        good = ((1, 1), (1, 1), (0, 1), (0, 1))
        self.assert_true(is_row_at(THREE, 2, good))
        wrong = WRONG + NO_ROWS[:-3] + (
            (1, 1, 0, 0), good[:3], good + good[:1], list(good), (good,), None, ((2, 2),) + good[1:], ((0, 3),) + good[1:],
            ((3, 3),) + good[1:], ((1, 1), (1, 1), (0, 3), (0, 1)), ((-1, -1),) + good[1:], ((1, -1),) + good[1:], ((1, 0),) + good[1:],
            ((True, 1),) + good[1:], ((1, True),) + good[1:], ([1, 1],) + good[1:], ((1, 1, 1),) + good[1:], ((1,),) + good[1:], (None,) + good[1:], ((1, None),) + good[1:], (("1", 1),) + good[1:],
            ((1, 1), (1, 1), (0, 1), (False, 1)), ((1, 1), (1, 1), (0, 1), 0), ((-2, 4),) * 4, ((0, 1), (1, 1), (0, 1), (0, 1)))
        for value in wrong:
            self.assert_false(is_row_at(THREE, 2, value))


class Ratios(Case):

    def test_part_kinds(self):
        for group in SMALL + (FIVE, Group.every(4), MIRRORS):
            told = subgroups(group)
            for index, first in enumerate(classes(group)):
                numbers = {first: 1}
                for low in reversed(told):
                    if set(low) < set(first):
                        numbers[low] = -sum(number for high, number in numbers.items() if set(low) < set(high))
                right = [Fraction(0)] * len(classes(group))
                for low, number in numbers.items():
                    right[class_of(group, low)] += Fraction(len(low) * number, len(keeper(group, first)))
                self.assertEqual(part_kinds(group, index), tuple((value.numerator, value.denominator) for value in right))
                self.assertEqual(part_bottom(group, index), lcm(*(value.denominator for value in right)))

    def test_part_kinds_give_the_row(self):
        for group in SMALL + GREAT:
            table = mark_table(group)
            many = len(table)
            for index in range(0, many, 1 + many // 8):
                kinds = fractions_of(part_kinds(group, index))
                row = [sum(mark * value for mark, value in zip(line, kinds)) for line in table]
                self.assertEqual(row, [int(at == index) for at in range(many)])
                unit = tuple(int(at == index) for at in range(many))
                self.assertEqual(part_bottom(group, index), least_multiple(group, unit))
        self.assertEqual((part_kinds(ALONE, 0), part_bottom(ALONE, 0), part_bottom(FIVE, 0)), (((1, 1),), 1, 60))

    def test_kinds_of_ratios(self):
        for group in SMALL + GREAT:
            table = mark_table(group)
            many = len(table)
            for seed in range(8):
                ratios = []
                for at in range(many):
                    value = Fraction((seed * at * at + 3 * at + seed) % 17 - 6, (seed + 2) * (at % 5) + 1)
                    ratios.append((value.numerator, value.denominator))
                told = kinds_of_ratios(group, tuple(ratios))
                for top, bottom in told:
                    self.assertTrue(bottom > 0 and Fraction(top, bottom) == Fraction(top) / bottom)
                    self.assertEqual(Fraction(top, bottom).denominator, bottom)
                kinds = fractions_of(told)
                self.assertEqual([sum(mark * value for mark, value in zip(line, kinds)) for line in table], fractions_of(ratios))
        self.assertEqual(kinds_of_ratios(THREE, ((0, 1),) * 4), ((0, 1),) * 4)
        self.assertEqual(kinds_of_ratios(ALONE, ((-3, 7),)), ((-3, 7),))

    def test_mark_rows(self):
        for kinds in product(range(-2, 2), repeat=4):
            told = kinds_of_ratios(THREE, tuple((mark, 1) for mark in marks_of(THREE, kinds)))
            self.assertEqual(told, tuple((many, 1) for many in kinds))

    def test_long_ratios(self):
        bottoms = (LONG, LONG - 1, LONG - 3, 10 ** 59)
        ratios = tuple((1, bottom) for bottom in bottoms)
        kinds = fractions_of(kinds_of_ratios(THREE, ratios))
        for line, ratio in zip(mark_table(THREE), ratios):
            self.assertEqual(sum(mark * value for mark, value in zip(line, kinds)), Fraction(*ratio))


class Wrong(Case):

    def test_wrong_arguments(self):
        groups, row, primes = (InvalidGroup, NO_GROUPS), (InvalidRow, NO_ROWS), (InvalidNumber, NO_PRIMES)
        index = (InvalidNumber, NO_INDICES)
        for call in (square_rows, square_kinds, first_of(each_square)):
            self.assert_refused(call, (THREE,), groups)
        self.assert_refused(is_own_square, (THREE, None), groups)
        self.assert_refused(square_paper, (THREE, (1, 1, 0, 0)), groups, row)
        self.assert_refused(is_square_paper, (THREE, (1, 1, 0, 0), None), groups, row)
        self.assert_refused(is_row_at, (THREE, 97, None), groups, primes)
        self.assert_refused(square_rows_at, (THREE, 97), groups, primes)
        self.assert_refused(part_kinds, (THREE, 3), groups, index)
        self.assert_refused(part_bottom, (THREE, 3), groups, index)
        good = ((1, 1), (1, 1), (0, 1), (0, 1))
        ratios = tuple(value for value in NO_ROWS if value != ((0, 1),) * 4) + (
            (0, 0, 0, 0), (1, 1, 1, 1), good[:3], good + good[:1], list(good), ((2, 2),) + good[1:], ((1, -1),) + good[1:],
            ((1, 0),) + good[1:], ((True, 1),) + good[1:], ((1, True),) + good[1:], ([1, 1],) + good[1:], ((1, 1, 1),) + good[1:],
            ((0, 2),) + good[1:], ((10 ** 60, 1),) + good[1:], ((1, 10 ** 60),) + good[1:], (None,) + good[1:])
        self.assert_refused(kinds_of_ratios, (THREE, good), groups, (InvalidRow, ratios))

    def test_other_rows(self):
        for row in ((2, 0, 0, 0), (0, 0, 0, -1), (LONG, 1, 1, 1), (1, 1, 1, 2)):
            self.assert_raises(InvalidOperation, square_paper, THREE, row)
            self.assert_raises(InvalidOperation, is_square_paper, THREE, row, ("sum", (0,)))
            self.assert_raises(InvalidGroup, square_paper, None, row)
        self.assert_raises(InvalidRow, square_paper, THREE, (2, 0, 0))


class NotTrue(Case):

    def test_product_at_unlike_primes(self):
        one, other = square_rows_at(THREE, 2)[1], square_rows_at(THREE, 3)[0]
        self.assert_false(is_own_square(THREE, tuple(map(lambda a, b: a * b, one, other))))

    def test_row_at_one_prime(self):
        row = (1, 1, 0, 0)
        self.assert_true(is_row_at(THREE, 2, tuple((member, 1) for member in row)))
        self.assert_false(is_mark_row(THREE, row))

    def test_kinds_below_zero(self):
        self.assertLess(min(square_kinds(FIVE)[1]), 0)

    def test_bottom_of_a_class(self):
        self.assertEqual(part_bottom(THREE, 0), 6)


if __name__ == "__main__":
    unittest.main()
