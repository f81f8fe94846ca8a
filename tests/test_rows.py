"""[0.13] and [8.1] to [8.6]: which rows are mark rows."""

import unittest
from itertools import islice, product

from helpers import (ALONE, Case, FIVE, MIRRORS, NO_GROUPS, NO_INDICES, NO_ROWS, PAIRS, QUATER, SQUARE, THREE, TWENTY, WRONG,
                     cosets_of, double_group, first_of, made, many_turning)
from movemarks.errors import InvalidGroup, InvalidNumber, InvalidOperation, InvalidRow
from movemarks.lattice.subgroups import class_of, classes, keeper, small_group
from movemarks.mark.marks import coset_row, keeper_indices, kinds_of, mark_table, marks_of
from movemarks.mark.rows import (built_pair, each_rest, first_fault, is_mark_row, is_rest, is_row_paper, least_multiple,
                                 rest_of_row, row_paper, row_sum, share)
from movemarks.move.groups import Group, beside
from movemarks.point.sets import MovedSet

SMALL = (THREE, SQUARE, PAIRS, QUATER, TWENTY, ALONE, MIRRORS, Group.even(4), Group.turning(12), many_turning(2, 2, 2))
GREAT = (Group.every(4), FIVE, Group.every(5), double_group(), beside(FIVE, Group.turning(2)))
LONG = 10 ** 60 - 1


def some_rows(group):
    """Rows that are mark rows, and rows that are near them, or far."""
    many = len(classes(group))
    yield (0,) * many
    yield (1,) * many
    yield (LONG,) * many
    yield (-LONG,) + (0,) * (many - 1)
    for at in range(many):
        yield coset_row(group, at)
        yield (0,) * at + (1,) + (0,) * (many - at - 1)
        yield (1,) * at + (0,) + (1,) * (many - at - 1)
        yield tuple((at * other * other + 3 * other) % 11 - 4 for other in range(many))
        row = marks_of(group, tuple((at + other * other) % 5 - 2 for other in range(many)))
        yield row
        yield row[:at] + (row[at] - 1,) + row[at + 1:]


def plain_sum(group, row, index):
    """The row sum and the number of cosets, told anew."""
    first = classes(group)[index]
    found = [coset for coset in cosets_of(group, first) if coset[0] in keeper(group, first)]
    return sum(row[class_of(group, made(group.places, first + coset))] for coset in found), len(found)


class Sums(Case):

    def test_row_sums(self):
        for group in SMALL + (FIVE,):
            for row in list(some_rows(group))[::3]:
                for index, number in enumerate(keeper_indices(group)):
                    told = row_sum(group, row, index)
                    self.assertEqual(told, plain_sum(group, row, index))
                    self.assertEqual(told[1], number)
        self.assertEqual([row_sum(THREE, (1, 1, 1, 0), index) for index in range(4)], [(6, 6), (1, 1), (1, 2), (0, 1)])
        self.assertEqual(row_sum(ALONE, (7,), 0), (7, 1))
        self.assertEqual(row_sum(THREE, (LONG,) * 4, 0), (6 * LONG, 6))

    def test_parts_of_what_stays(self):
        # N moves the points that H leaves; there are as many parts as the row sum, divided, tells.
        for group, kinds in ((THREE, (1, 2, 0, 3)), (SQUARE, (1, 0, 1, 2, 0, 1, 0, 2)), (Group.even(4), (1, 1, 2, 1, 1))):
            moved = MovedSet.of_kinds(group, kinds)
            for index, first in enumerate(classes(group)):
                parts = {tuple(sorted({moved.led(move, point) for move in keeper(group, first)})) for point in moved.still(first)}
                total, number = row_sum(group, moved.marks, index)
                self.assertEqual(total, len(parts) * number)

    def test_mark_rows_by_sums(self):
        # [0.13], against the ratios that the mark table tells.
        for group in SMALL + GREAT:
            for row in some_rows(group):
                faults = [at for at in range(len(row)) if row_sum(group, row, at)[0] % row_sum(group, row, at)[1]] \
                    if group.order < 25 else None
                right = kinds_of(group, row) is not None
                self.assertIs(is_mark_row(group, row), right)
                self.assertIs(first_fault(group, row) is None, right)
                if faults is not None:
                    self.assertEqual(first_fault(group, row), faults[0] if faults else None)

    def test_all_rows(self):
        seen = 0
        for row in product(range(6), range(-1, 2), range(2), range(-1, 2)):
            sums = [plain_sum(THREE, row, index) for index in range(4)]
            right = all(total % number == 0 for total, number in sums)
            self.assertIs(is_mark_row(THREE, row), right)
            self.assertIs(is_mark_row(THREE, row), kinds_of(THREE, row) is not None)
            seen += right
        # One row of each six at the class 0, and of each two at the class 2, is one.
        self.assertEqual(seen, 9)

    def test_sums_opposites_and_products(self):
        for group in SMALL:
            rows = [row for row in some_rows(group) if is_mark_row(group, row)]
            for one in rows[::3]:
                self.assertTrue(is_mark_row(group, tuple(-member for member in one)) or LONG in one)
                for other in rows[::4]:
                    for made_row in (tuple(map(lambda a, b: a + b, one, other)), tuple(map(lambda a, b: a * b, one, other))):
                        if max(map(abs, made_row)) <= LONG:
                            self.assert_true(is_mark_row(group, made_row))


class Papers(Case):

    def test_papers(self):
        for group in SMALL + GREAT[:3]:
            for row in list(some_rows(group))[::1 if group.order < 25 else 7]:
                paper = row_paper(group, row)
                self.assert_true(is_row_paper(group, row, paper))
                self.assertEqual(paper[0], "sets" if is_mark_row(group, row) else "sum")
                if paper[0] == "sets":
                    _, plus, less = paper
                    self.assertEqual(tuple(one - other for one, other in zip(plus, less)), kinds_of(group, row))
                    self.assertTrue(all(min(pair) == 0 for pair in zip(plus, less)))
                else:
                    self.assertEqual(paper[2:], row_sum(group, row, paper[1]))
                    self.assertTrue(paper[2] % paper[3])

    def test_right_sums(self):
        for row in product(range(-1, 3), repeat=4):
            for index in range(4):
                total, number = row_sum(THREE, row, index)
                self.assertIs(is_row_paper(THREE, row, ("sum", index, total, number)), total % number != 0)
                for wrong in (("sum", index, total + number, number), ("sum", index, total, number + 1), ("sum", index, -total, -number),
                              ("sum", index + 4, total, number), ("sum", index - 4, total, number), ("sum", index, total % number, 7)):
                    self.assert_false(is_row_paper(THREE, row, wrong))

    def test_wrong_papers(self):
        row = (1, 0, 0, 1)
        self.assert_true(is_row_paper(THREE, row, ("sum", 0, 1, 6)))
        self.assert_true(is_row_paper(THREE, row, ("sum", 2, 1, 2)))
        for value in WRONG + ((), ("sum",), ("sum", 0, 1), ("sum", 0, 1, 6, 0), ["sum", 0, 1, 6], ("sum", False, 1, 6), ("sum", 0, True, 6),
                              ("sum", 2, True, 2), ("sum", 2, 1, None), ("sum", 2, 1, "2"), ("sum", 4, 1, 2), ("sum", -2, 1, 2),
                              ("sum", 1, 1, 1), ("sum", 3, 1, 1), ("sum", 0, 7, 6), ("sum", 0, 10 ** 99, 6), ("Sum", 0, 1, 6),
                              ("sets", 0, 1, 6), (0, 1, 6), ("sets", (0, 0, 0, 1), (0, 0, 0, 0)), ("sets", None, None),
                              (True, 0, 1, 6), (None, 2, 1, 2), ("sum", (2,), 1, 2), ("sum", 10 ** 99, 1, 2)):
            self.assert_false(is_row_paper(THREE, row, value))

    def test_right_and_wrong_sets(self):
        row = (0, 2, 0, 2)
        plus, less = (0, 0, 0, 2), (0, 0, 1, 0)
        self.assert_true(is_row_paper(THREE, row, ("sets", plus, less)))
        for value in (("sets", less, plus), ("sets", plus), ("sets", plus, less, ()), ("sets", list(plus), less), ["sets", plus, less],
                      ("sets", (0, 0, 1, 2), (0, 0, 2, 0)), ("sets", (0, 0, -1, 2), (0, 0, 0, 0)), ("sets", (0, 0, 0, 2, 0), less),
                      ("sets", (0, 0, 0, 2), (0, 0, True, 0)), ("sets", (False, 0, 0, 2), less), ("sets", (0, 0, 0), (0, 0, 1)),
                      ("sets", plus, (0, 0, 1, None)), ("sets", plus, plus), ("sets", (0, 0, 0, "2"), less), ("sum", plus, less),
                      ("sum", 0, 0, 6), ("sum", 2, 2, 2), ("sets", (1, 0, 0, 2), (1, 0, 1, 0)), ("sets", None, less), ("sets", (), ())):
            self.assert_false(is_row_paper(THREE, row, value))
        self.assert_true(is_row_paper(THREE, (0, 0, 0, 0), ("sets", (0,) * 4, (0,) * 4)))
        self.assert_false(is_row_paper(THREE, (0, 0, 0, 0), ("sets", (0, 1, 0, 0), (0, 1, 0, 0))))

    def test_long_papers(self):
        row = (-LONG, LONG, -LONG, -LONG)
        paper = ("sets", (0, 2 * LONG, 0, 0), (LONG, 0, 0, LONG))
        self.assertEqual(row_paper(THREE, row), paper)
        self.assert_true(is_row_paper(THREE, row, paper))
        self.assert_false(is_row_paper(THREE, row, ("sets", (0, 2 * LONG + 1, 0, 0), (LONG, 0, 0, LONG))))
        total = LONG * 5 + 1
        self.assert_true(is_row_paper(THREE, (1, LONG, LONG, LONG), ("sum", 0, total, 6)))
        self.assertEqual(row_sum(THREE, (1, LONG, LONG, LONG), 0), (total, 6))


class Rests(Case):

    def test_rests(self):
        for group in SMALL + GREAT:
            numbers = keeper_indices(group)
            for row in some_rows(group):
                rest = rest_of_row(group, row)
                self.assertTrue(all(0 <= member < number for member, number in zip(rest, numbers)))
                difference = tuple(member - left for member, left in zip(row, rest))
                self.assertTrue(max(map(abs, difference)) > LONG or is_mark_row(group, difference))
                self.assert_true(is_rest(group, rest))
                self.assertEqual(rest_of_row(group, rest), rest)
                self.assertIs(not any(rest), is_mark_row(group, row))

    def test_sums_of_rests(self):
        for group in SMALL:
            for one, other in zip(list(some_rows(group))[4::2], list(some_rows(group))[5::3]):
                total = tuple(map(lambda a, b: a + b, one, other))
                rests = tuple(map(lambda a, b: a + b, rest_of_row(group, one), rest_of_row(group, other)))
                self.assertEqual(rest_of_row(group, total), rest_of_row(group, rests))

    def test_is_rest(self):
        for value in product(range(-1, 7), range(-1, 2), range(-1, 3), range(-1, 2)):
            right = 0 <= value[0] < 6 and value[1] == 0 and value[2] in (0, 1) and value[3] == 0
            self.assertIs(is_rest(THREE, value), right)
            self.assertIs(is_rest(THREE, value), rest_of_row(THREE, value) == value)
        for value in NO_ROWS + ((True, 0, 0, 0), (0, False, 0, 0), (5, 0, True, 0), (0, 0, 0, None), (0, 0, 1), [5, 0, 1, 0], (6, 0, 0, 0),
                                (10 ** 99, 0, 0, 0)):
            self.assert_false(is_rest(THREE, value))

    def test_each_rest(self):
        for group in (THREE, PAIRS, ALONE, Group.turning(4), Group.even(4), TWENTY):
            found = list(each_rest(group))
            self.assertEqual(found, list(product(*map(range, keeper_indices(group)))))
            self.assertEqual(found, sorted(set(found)))
            self.assertEqual(len(found), share(group))
        self.assertEqual(list(each_rest(ALONE)), [(0,)])

    def test_very_many_rests(self):
        group = many_turning(3, 3, 3)
        first = list(islice(each_rest(group), 3))
        self.assertEqual(first, [(0,) * 28, (0,) * 26 + (1, 0), (0,) * 26 + (2, 0)])
        self.assertEqual(share(group), 27 * 9 ** 13 * 3 ** 13)

    def test_share(self):
        self.assertEqual((share(THREE), share(PAIRS), share(ALONE), share(FIVE)), (12, 32, 1, 60 * 2 * 2 * 3 * 2))
        for group in SMALL + GREAT:
            right = 1
            for at, line in enumerate(mark_table(group)):
                right *= line[at]
            self.assertEqual(share(group), right)


class Multiples(Case):

    def test_least_multiples(self):
        for group in SMALL:
            for row in some_rows(group):
                if max(map(abs, row)) * group.order <= LONG:
                    right = next(many for many in range(1, group.order + 1)
                                 if is_mark_row(group, tuple(many * member for member in row)))
                    self.assertEqual(least_multiple(group, row), right)
                    self.assertEqual(group.order % right, 0)
                    for many in range(-group.order, 2 * group.order, 3):
                        self.assertIs(is_mark_row(group, tuple(many * member for member in row)), many % right == 0)
        for group in GREAT:
            many = len(classes(group))
            self.assertEqual(least_multiple(group, (1,) + (0,) * (many - 1)), group.order)
            for row in list(some_rows(group))[4::5]:
                self.assertIs(least_multiple(group, row) == 1, is_mark_row(group, row))
        self.assertEqual((least_multiple(ALONE, (5,)), least_multiple(THREE, (LONG,) * 4), least_multiple(THREE, (LONG, 0, 0, 0))), (1, 1, 2))


class Pairs(Case):

    def test_pairs(self):
        for group in SMALL:
            for row in some_rows(group):
                if is_mark_row(group, row) and sum(map(abs, kinds_of(group, row))) < 6 and group.order < 13:
                    pair = built_pair(group, row)
                    self.assertEqual((pair.__class__, len(pair)), (tuple, 2))
                    one, other = pair
                    self.assertEqual(tuple(mark - less for mark, less in zip(one.marks, other.marks)), row)
                    _, plus, less = row_paper(group, row)
                    self.assertEqual((one.kinds, other.kinds), (plus, less))
                    self.assertTrue(one == MovedSet.of_kinds(group, plus) and other == MovedSet.of_kinds(group, less))

    def test_sixty_points(self):
        for kinds, sizes in (((10, 0, 0, 0), (60, 0)), ((-10, 0, 0, 60), (60, 60)), ((0, 0, -30, 0), (0, 60)), ((0, 20, 0, -60), (60, 60))):
            one, other = built_pair(THREE, marks_of(THREE, kinds))
            self.assertEqual((one.size, other.size), sizes)
        for kinds in ((10, 0, 0, 1), (-10, 0, 0, -1), (1, 0, 0, -61), (0, 0, -30, 61), (-61, 0, 61, 0), (0, 0, 0, 61), (0, 0, 0, -61),
                      (LONG // 12, 0, 0, 0), (0, -LONG // 4, 0, 1)):
            self.assert_too_many(60, built_pair, THREE, marks_of(THREE, kinds))
        # Here kinds with more than sixty digits come out.
        self.assert_too_many(60, built_pair, THREE, (-LONG, LONG, -LONG, -LONG))
        self.assert_raises(InvalidOperation, built_pair, THREE, (0, 0, LONG, 0))

    def test_wrong(self):
        self.assert_raises(InvalidOperation, built_pair, THREE, (1, 0, 0, 0))
        self.assert_raises(InvalidRow, built_pair, THREE, (1, 0, 0))
        self.assertEqual([part.size for part in built_pair(ALONE, (-3,))], [0, 3])


class Wrong(Case):

    def test_wrong_arguments(self):
        groups, rows, index = (InvalidGroup, NO_GROUPS), (InvalidRow, NO_ROWS), (InvalidNumber, NO_INDICES)
        row = (12, 0, 0, 0)
        self.assert_refused(row_sum, (THREE, row, 3), groups, rows, index)
        for call in (is_mark_row, row_paper, first_fault, rest_of_row, least_multiple, built_pair):
            self.assert_refused(call, (THREE, row), groups, rows)
        self.assert_refused(is_row_paper, (THREE, row, None), groups, rows)
        self.assert_refused(is_rest, (THREE, row), groups)
        for call in (share, first_of(each_rest)):
            self.assert_refused(call, (THREE,), groups)


class NotTrue(Case):

    def test_divisible_at_the_class_zero(self):
        self.assertEqual(row_sum(THREE, (1, 1, 1, 0), 0)[0] % 6, 0)
        self.assert_false(is_mark_row(THREE, (1, 1, 1, 0)))

    def test_least_multiple_between(self):
        self.assertEqual(least_multiple(THREE, (0, 0, 0, 1)), 2)

    def test_product_of_no_mark_rows(self):
        self.assert_false(is_mark_row(THREE, (2, 0, 0, 0)) or is_mark_row(THREE, (3, 0, 0, 0)))
        self.assert_true(is_mark_row(THREE, (6, 0, 0, 0)))

    def test_square_of_no_mark_row(self):
        # [0.18]: a row whose square is a mark row need not be one.
        found = [row for row in product(range(-1, 7), repeat=4)
                 if not is_mark_row(THREE, row) and is_mark_row(THREE, tuple(member * member for member in row))]
        self.assertNotEqual(found, [])

    def test_subgroups_as_groups(self):
        # A mark row of the group has the marks of a mark row at the subgroups of a subgroup.
        small = small_group(SQUARE, classes(SQUARE)[4])
        for row in some_rows(SQUARE):
            if is_mark_row(SQUARE, row):
                led = tuple(row[class_of(SQUARE, one)] for one in classes(small))
                self.assert_true(is_mark_row(small, led))


if __name__ == "__main__":
    unittest.main()
