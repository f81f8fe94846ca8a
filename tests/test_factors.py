"""[17.1] to [17.7]: lots of classes, and their factors."""

import unittest
from itertools import combinations, product
from math import prod

from helpers import (ALONE, Case, FIVE, MIRRORS, NO_GROUPS, NO_PRIMES, NO_ROWS, PAIRS, QUATER, SQUARE, THREE, TWENTY, WRONG,
                     double_group, many_turning)
from movemarks.base.tables import elementary_divisors
from movemarks.equal.singles import single_classes
from movemarks.errors import InvalidGroup, InvalidNumber, InvalidOperation
from movemarks.factor import factors
from movemarks.factor.factors import (closed_lot, is_closed_lot, is_made_of, is_single_factor, local_factor, lot_divisors, lot_table,
                                      prime_lot, single_factor, single_lot)
from movemarks.lattice.subgroups import class_members, classes
from movemarks.mark.marks import coset_row, keeper_indices, mark_table, marks_of
from movemarks.move.groups import Group, beside
from movemarks.point.sets import MovedSet

EVEN, EVERY = Group.even(4), Group.every(4)
SMALL = (THREE, SQUARE, PAIRS, QUATER, ALONE, Group.turning(12), EVEN, TWENTY, FIVE, EVERY, many_turning(2, 2, 2))
GREAT = (MIRRORS, Group.every(5), double_group(), beside(FIVE, Group.turning(2)), many_turning(2, 2, 4), many_turning(3, 3, 3),
         beside(EVERY, Group.turning(5)), beside(THREE, THREE), beside(SQUARE, Group.turning(2)), beside(SQUARE, THREE), Group.mirrors(15))
# None of these is a lot of THREE.
NO_LOTS = tuple(value for value in WRONG if value != (0, 1, 2)) + (
    (), (4,), (0, 4), (-1,), (-1, 0), (1, 0), (0, 0), (0, 1, 1), (2, 1), (0, 2, 1), [0], [0, 1], (True,), (False,), (0, True), (False, 1),
    (None,), ("0",), ((0,),), (0, 10 ** 60), (10 ** 59,), (0, 1, 2, 3, 4), {0: 1}, "0", 0, 3, (0, None))
LONG = 10 ** 300


def within(group, lot):
    """The closing of a lot, told anew."""
    tops = [set(one) for index in lot for one in class_members(group, index)]
    return tuple(index for index, first in enumerate(classes(group)) if any(set(first) <= top for top in tops))


def some_lots(group):
    """Lots of a group: all of them for few classes."""
    many = len(classes(group))
    if many < 7:
        return [lot for size in range(1, many + 1) for lot in combinations(range(many), size)]
    single = single_classes(group)
    lots = [(index,) for index in range(many)] + [single, tuple(range(many)), tuple(range(many - 1))]
    lots += [tuple(sorted(set(single + (index,)))) for index in range(many)]
    lots += [tuple(index for index in range(many) if (index * seed + index * index) % 3) for seed in range(1, 5)]
    return [lot for lot in dict.fromkeys(lots) if lot]


def divisors_of(number):
    return [divisor for divisor in range(1, number + 1) if number % divisor == 0]


def can_be_made(group, closing, singles, number):
    """Whether kinds made of a closed lot have the mark at all single classes: told by elementary divisors."""
    table = mark_table(group)
    rows = tuple(tuple(table[index][column] for column in closing) for index in singles)
    wider = tuple(row + (number,) for row in rows)
    return prod(elementary_divisors(rows)) == prod(elementary_divisors(wider))


class Lots(Case):

    def test_constant(self):
        self.assertEqual(factors.MAX_LOT, 24)

    def test_closings(self):
        # [17.1]
        for group in SMALL + GREAT:
            for lot in some_lots(group):
                closing = closed_lot(group, lot)
                self.assertEqual(closing, within(group, lot))
                self.assertEqual(closed_lot(group, closing), closing)
                self.assertIs(is_closed_lot(group, lot), lot == closing)
                self.assert_true(is_closed_lot(group, closing))
        self.assertEqual((closed_lot(ALONE, (0,)), single_lot(ALONE), prime_lot(ALONE, 2)), ((0,), (0,), (0,)))

    def test_no_closed_lots(self):
        for value in NO_LOTS + ((1,), (0, 3), (1, 2), (0, 1, 3), (0, 2, 3)):
            self.assert_false(is_closed_lot(THREE, value))
        for value in ((0,), (0, 1), (0, 2), (0, 1, 2), (0, 1, 2, 3)):
            self.assert_true(is_closed_lot(THREE, value))

    def test_prime_lots(self):
        # [17.4]
        for group in SMALL + GREAT:
            for prime in (2, 3, 5, 7, 97):
                powers = [prime ** many for many in range(8)]
                told = prime_lot(group, prime)
                self.assertEqual(told, tuple(index for index, first in enumerate(classes(group)) if len(first) in powers))
                self.assert_true(is_closed_lot(group, told))
                part = max(power for power in powers if group.order % power == 0)
                self.assertEqual(local_factor(group, told)[0], group.order // part)
            self.assertEqual(prime_lot(group, 89), (0,))
            self.assertEqual(local_factor(group, (0,))[0], group.order)
            self.assertEqual(local_factor(group, tuple(range(len(classes(group)))))[0], 1)

    def test_single_lots(self):
        for group in SMALL + GREAT:
            self.assertEqual(single_lot(group), single_classes(group))
            self.assert_true(is_closed_lot(group, single_lot(group)))

    def test_made_of(self):
        for group in (THREE, SQUARE, EVEN, FIVE):
            for lot in some_lots(group):
                closing = within(group, lot)
                kinds = tuple(index + 1 if index in closing else 0 for index in range(len(classes(group))))
                self.assert_true(is_made_of(group, lot, kinds))
                self.assert_true(is_made_of(group, lot, tuple(-LONG * many for many in kinds)))
                self.assert_true(is_made_of(group, lot, (0,) * len(kinds)))
                marks = marks_of(group, kinds)
                for index in range(len(kinds)):
                    near = kinds[:index] + (7,) + kinds[index + 1:]
                    self.assertIs(is_made_of(group, lot, near), index in closing)
                    if index not in closing:
                        self.assertEqual(marks[index], 0)
        rows = tuple(value for value in NO_ROWS if value != (10 ** 60, 0, 0, 0) and value != (0, 10 ** 99, 0, 0))
        for value in rows + ((5, -2, 1, 0), (5, -2, 0), (5, -2, 0, 0, 0), [5, -2, 0, 0], (5, True, 0, 0), (5, -2, False, 0), (5, -2, None, 0),
                             (0, 0, 0, LONG)):
            self.assert_false(is_made_of(THREE, (1,), value))
        self.assert_true(is_made_of(THREE, (1,), (LONG, -LONG, 0, 0)))


class Singles(Case):

    def test_factors(self):
        # [17.2], with the least integer told by elementary divisors.
        for group in SMALL + GREAT:
            singles, many = single_classes(group), len(classes(group))
            for lot in some_lots(group)[::1 if many < 13 else 4]:
                told, closing = single_factor(group, lot), within(group, lot)
                self.assert_true(is_single_factor(group, lot, told))
                if set(singles) <= set(closing):
                    word, number, kinds = told
                    self.assertEqual((word, len(kinds)), ("factor", many))
                    self.assertTrue(all(abs(member) < 10 ** 60 for member in kinds))
                    self.assert_true(is_made_of(group, lot, kinds))
                    marks = marks_of(group, kinds)
                    self.assertEqual({marks[index] for index in singles}, {number})
                    self.assertEqual(group.order % number, 0)
                    smaller = [divisor for divisor in divisors_of(number) if can_be_made(group, closing, singles, divisor)]
                    self.assertEqual(smaller, [number])
                else:
                    self.assertEqual((told[0], len(told)), ("class", 2))
                    self.assertTrue(told[1] in singles and told[1] not in closing)

    def test_one_class_more(self):
        # In some of these closings a common divisor of the marks of two classes is needed, and what is left then.
        for group in (beside(Group.turning(5), MIRRORS), beside(Group.turning(7), MIRRORS), beside(Group.turning(2), TWENTY)):
            singles = single_classes(group)
            for index in range(len(classes(group))):
                lot = tuple(sorted(set(singles + (index,))))
                word, number, kinds = single_factor(group, lot)
                self.assert_true(is_single_factor(group, lot, (word, number, kinds)))
                right = [divisor for divisor in divisors_of(group.order) if can_be_made(group, within(group, lot), singles, divisor)]
                self.assertEqual(min(right), number)

    def test_greater_lots(self):
        # [17.6]
        for group in SMALL:
            found = {within(group, lot): single_factor(group, lot) for lot in some_lots(group)}
            for one, told in found.items():
                for other, more in found.items():
                    if set(one) >= set(other) and told[0] == more[0] == "factor":
                        self.assertEqual(more[1] % told[1], 0)

    def test_all_numbers_by_trial(self):
        # Made of classes 0, 1 and 2 of THREE, and of all classes: kinds from -3 to 3 one by one.
        for lot, many in (((1, 2), 3), ((3,), 4)):
            found = set()
            for some in product(range(-3, 4), repeat=many):
                marks = marks_of(THREE, some + (0,) * (4 - many))[:3]
                if len(set(marks)) == 1 and marks[0] > 0:
                    found.add(marks[0])
            self.assertEqual(min(found), single_factor(THREE, lot)[1])

    def test_group_of_one_move(self):
        self.assertEqual(single_factor(ALONE, (0,)), ("factor", 1, (1,)))
        self.assertEqual(local_factor(ALONE, (0,)), (1, (1,)))
        self.assertEqual((lot_table(ALONE, (0,)), lot_divisors(ALONE, (0,))), (((1,),), (1,)))

    def test_judged_factors(self):
        group, lot = PAIRS, (1, 2, 3, 4)
        number = single_factor(group, lot)[1]
        self.assertEqual(number, 1)
        for kinds in product(range(-2, 3), repeat=5):
            marks = marks_of(group, kinds)[:4]
            for value in (1, 2, -1, 0):
                right = value == 1 and set(marks) == {1}
                self.assertIs(is_single_factor(group, lot, ("factor", value, kinds)), right)
        for lot, closing in (((1, 2, 3), (0, 1, 2, 3)), ((0, 1, 2, 3), (0, 1, 2, 3))):
            number = single_factor(group, lot)[1]
            self.assertEqual(number, 2)
            for kinds in product(range(-2, 3), repeat=5):
                right = kinds[4] == 0 and set(marks_of(group, kinds)[:4]) == {2}
                self.assertIs(is_single_factor(group, lot, ("factor", 2, kinds)), right)
                self.assert_false(is_single_factor(group, lot, ("factor", 1, kinds)))
        # A multiple of the least integer is not the least one.
        self.assert_false(is_single_factor(PAIRS, (1, 2, 3), ("factor", 4, tuple(2 * many for many in single_factor(PAIRS, (1, 2, 3))[2]))))

    def test_long_kinds(self):
        # Equal kinds can be added, as often as one wants.
        for group in (THREE, PAIRS):
            lot = tuple(range(len(classes(group))))
            _, number, kinds = single_factor(group, lot)
            equal = (1, -2, -1, 2) if group is THREE else (1, -1, -1, -1, 2)
            longer = tuple(many + LONG * more for many, more in zip(kinds, equal))
            self.assert_true(is_single_factor(group, lot, ("factor", number, longer)))
            self.assert_false(is_single_factor(group, lot, ("factor", number + LONG, longer)))
            self.assert_false(is_single_factor(group, lot, ("factor", number, longer[:-1] + (longer[-1] + 1,))))

    def test_judged_classes(self):
        for group in (THREE, SQUARE, PAIRS, EVEN, FIVE):
            singles = single_classes(group)
            for lot in some_lots(group):
                for index in range(-1, len(classes(group)) + 1):
                    right = index in singles and index not in within(group, lot)
                    self.assertIs(is_single_factor(group, lot, ("class", index)), right)

    def test_wrong_values(self):
        good = ("factor", 2, (-1, 2, 1, 0))
        self.assert_true(is_single_factor(THREE, (1, 2), good))
        kinds = [("factor", 2, value) for value in NO_ROWS + ((-1, 2, True, 0), [-1, 2, 1, 0], (-1, 2, 1), (-1, 2, 1, 0, 0), (0, 0, 0, 2))]
        numbers = [("factor", value, (-1, 2, 1, 0)) for value in WRONG + (1, 3, 4, -2, "2", (2,))]
        shapes = [("factor",), ("factor", 2), good + (0,), list(good), ("Factor", 2, (-1, 2, 1, 0)), ("factor", (-1, 2, 1, 0), 2), ("class", 2),
                  ("class", 3), ("class", 0), ("class", 2, (-1, 2, 1, 0)), (None, 2, (-1, 2, 1, 0)), ()]
        for value in list(WRONG) + kinds + numbers + shapes:
            self.assert_false(is_single_factor(THREE, (1, 2), value))
        self.assert_true(is_single_factor(THREE, (2,), ("class", 1)))
        indices = [("class", value) for value in WRONG + (0, 2, 3, 4, (1,), "1")]
        shapes = [("class",), ("class", 1, 0), ["class", 1], ("Class", 1), (1, "class"), ("factor", 1), ("class", None), ("factor", 2, (-1, 2, 1, 0)),
                  ("factor", 0, (0, 0, 0, 0)), ("factor", 0, (1, 0, -3, 0)), ("factor", 1, (0, 0, 0, 1))]
        for value in list(WRONG) + indices + shapes:
            self.assert_false(is_single_factor(THREE, (2,), value))
        # The class of the subgroup with True in its place.
        self.assert_false(is_single_factor(THREE, (2,), ("class", True)))
        self.assert_true(is_single_factor(THREE, (3,), ("factor", 1, (0, 0, 0, 1))))
        self.assert_false(is_single_factor(THREE, (3,), ("factor", True, (0, 0, 0, 1))))
        self.assert_false(is_single_factor(THREE, (3,), ("factor", 1, (0, 0, 0, True))))


class Locals(Case):

    def test_local_factors(self):
        # [17.3]
        for group in SMALL + GREAT:
            many = len(classes(group))
            for lot in some_lots(group):
                number, kinds = local_factor(group, lot)
                closing = within(group, lot)
                self.assert_true(is_made_of(group, lot, kinds))
                self.assertEqual(marks_of(group, kinds), tuple(number if index in closing else 0 for index in range(many)))
                self.assertEqual(group.order % number, 0)
                # With a smaller integer the only kinds would be these, divided.
                for divisor in divisors_of(number)[1:]:
                    self.assertTrue(any(member % divisor for member in kinds))

    def test_tables(self):
        # [17.5]
        for group in SMALL + GREAT:
            numbers = keeper_indices(group)
            for lot in some_lots(group)[::3]:
                closing = within(group, lot)
                if len(closing) <= 24:
                    table, divisors = lot_table(group, lot), lot_divisors(group, lot)
                    self.assertEqual(table, tuple(tuple(coset_row(group, row)[column] for column in closing) for row in closing))
                    self.assertEqual(divisors, elementary_divisors(table))
                    for at, row in enumerate(table):
                        self.assertEqual((row[at], set(row[at + 1:]) - {0}), (numbers[closing[at]], set()))
                    self.assertEqual(prod(divisors), prod(numbers[index] for index in closing))
                    self.assertEqual(divisors[-1] % local_factor(group, lot)[0], 0)

    def test_marks_by_points(self):
        for group in (THREE, SQUARE, PAIRS, EVEN):
            for lot in some_lots(group):
                closing = closed_lot(group, lot)
                for row, index in zip(lot_table(group, lot), closing):
                    moved = MovedSet.of_cosets(group, classes(group)[index])
                    self.assertEqual(row, tuple(len(moved.still(classes(group)[other])) for other in closing))

    def test_closings_of_24_and_25_classes(self):
        group = beside(MIRRORS, Group.turning(2))
        whole = tuple(range(len(classes(group))))
        sizes = {}
        for count in range(1, len(whole) + 1):
            sizes.setdefault(len(closed_lot(group, whole[:count])), whole[:count])
        self.assertEqual((len(lot_table(group, sizes[24])), len(lot_divisors(group, sizes[24]))), (24, 24))
        for call in (lot_table, lot_divisors):
            self.assert_too_many(24, call, group, sizes[25])
            self.assert_too_many(24, call, group, whole)
            self.assert_too_many(24, call, group, whole[-1:])
            self.assert_raises(InvalidOperation, call, group, whole[::-1])
            self.assert_raises(InvalidGroup, call, None, whole)
        # The other functions go on beyond 24 classes.
        self.assertEqual(closed_lot(group, whole[-1:]), whole)
        self.assertEqual((single_factor(group, whole)[1], local_factor(group, whole)[0]), (1, 1))


class Wrong(Case):

    def test_wrong_arguments(self):
        groups, lots, primes = (InvalidGroup, NO_GROUPS), (InvalidOperation, NO_LOTS), (InvalidNumber, NO_PRIMES)
        for call in (closed_lot, single_factor, local_factor, lot_table, lot_divisors):
            self.assert_refused(call, (THREE, (1, 2)), groups, lots)
        for call in (is_made_of, is_single_factor):
            self.assert_refused(call, (THREE, (1, 2), None), groups, lots)
        self.assert_refused(prime_lot, (THREE, 97), groups, primes)
        self.assert_refused(single_lot, (THREE,), groups)
        self.assert_refused(is_closed_lot, (THREE, None), groups)


class NotTrue(Case):

    def test_greatest_order_of_a_move(self):
        self.assertEqual(max(FIVE.order_counts()), 5)
        self.assertEqual(single_factor(FIVE, single_lot(FIVE))[1], 2)

    def test_local_factors_of_greater_lots(self):
        self.assertEqual((local_factor(THREE, (1, 2))[0], local_factor(THREE, (1,))[0]), (2, 3))

    def test_lots_without_the_whole_group(self):
        self.assertEqual(single_factor(FIVE, tuple(range(8)))[1], 1)


if __name__ == "__main__":
    unittest.main()
