"""[0.2] to [0.18]: what holds across the stages, each told in two ways."""

import inspect
import unittest
from itertools import product

from helpers import (ALONE, Case, FIVE, MIRRORS, NO_GROUPS, NO_SETS, PAIRS, QUATER, SQUARE, THREE, TWENTY, WRONG, double_group,
                     many_turning)
from movemarks.base.integers import is_integer, is_prime, is_ratio, prime_factors
from movemarks.base.tables import is_table
from movemarks.count.counts import (each_pattern_count, part_count, pattern_kinds, pattern_powers, pattern_row, patterns, roots_count,
                                    share_patterns, subgroup_counts, sylow_counts)
from movemarks.desk.desks import Desk
from movemarks.desk.promises import does_hold, is_paper_against, is_promise
from movemarks.equal.singles import (apart, are_equal_counts, counts_of, does_go_along, equal_lattice, equal_paper, is_equal_kinds,
                                     is_equal_paper, single_classes, single_marks)
from movemarks.errors import InvalidGroup, InvalidOperation, InvalidSet, Refused
from movemarks.factor.factors import (is_closed_lot, is_made_of, is_single_factor, local_factor, lot_table, prime_lot, single_factor,
                                      single_lot)
from movemarks.lattice.moebius import chain_counts, common_part, each_making, makings, moebius, moebius_row
from movemarks.lattice.steps import does_come_down, is_down_paper, last_step, perfect_classes
from movemarks.lattice.subgroups import (class_members, class_of, class_sizes, classes, is_kept, is_subgroup, made_by, maximal, small_group,
                                         subgroups)
from movemarks.made.changes import class_indices, kinds_down, kinds_up, map_count, row_down, row_up, set_down, set_up
from movemarks.made.powers import lots_all_row, lots_row, lots_set, maps_row, maps_set, part_sizes
from movemarks.made.quotients import (image_classes, kinds_left, kinds_lifted, quotient_classes, quotient_group, row_left, row_lifted, set_left,
                                      set_lifted)
from movemarks.made.sums import power_kinds, product_kinds, row_plus, row_times
from movemarks.mark.marks import kinds_of, mark_table, marks_of
from movemarks.mark.rows import built_pair, is_mark_row, is_rest, is_row_paper, least_multiple, rest_of_row, row_paper, row_sum
from movemarks.move.groups import Group, are_same, beside, is_same_paper
from movemarks.move.moves import is_move, is_turning_move, order_of
from movemarks.point.sets import MovedSet, is_match_paper, match_paper
from movemarks.square.signs import each_sign_row, half_rows, is_sign_paper, is_sign_row, part_row, sign_count, sign_paper
from movemarks.square.squares import each_square, is_own_square, is_row_at, is_square_paper, part_bottom, part_kinds, square_kinds, square_rows
from movemarks.text.texts import read_group, read_kinds, read_move, read_row, table_lines, write_group, write_kinds, write_move, write_row
from test_conventions import FUNCTIONS

EVEN, EVERY = Group.even(4), Group.every(4)
GROUPS = (THREE, SQUARE, PAIRS, QUATER, ALONE, EVEN, TWENTY, FIVE, MIRRORS, EVERY, Group.turning(12), many_turning(2, 2, 2), double_group(),
          beside(EVEN, Group.turning(2)), beside(FIVE, Group.turning(2)))


def some_kinds(group):
    """Kinds of a group, also with members below 0."""
    many = len(classes(group))
    return [tuple((seed * at * at + at + seed) % 7 - 3 for at in range(many)) for seed in range(4)]


def few_points(group):
    """Kinds of sets with moves of a group that have at most twelve points."""
    sizes = [group.order // len(first) for first in classes(group)]
    units = [tuple(int(at == index) for at in range(len(sizes))) for index in range(len(sizes)) if sizes[index] < 11]
    return units + [(0,) * (len(sizes) - 1) + (many,) for many in (0, 3)]


class Journeys(Case):

    def test_texts_and_back(self):
        for group in GROUPS:
            told = read_group(write_group(group))
            self.assertEqual((told, told.makers), (group, group.makers))
            self.assertEqual([read_move(write_move(move), group.places) for move in group], list(group.moves))
            table = mark_table(told)
            lines = [line.split(": ") for line in table_lines(group)]
            self.assertEqual([int(size) for size, _ in lines], [size for size, _ in class_sizes(told)])
            self.assertEqual(tuple(read_row(line.replace(" ", ",")) for _, line in lines), table)
            for kinds in some_kinds(group):
                self.assertEqual(read_kinds(write_kinds(kinds), len(kinds)), kinds)
                row = read_row(write_row(marks_of(group, kinds)))
                self.assertEqual(kinds_of(told, row), kinds)

    def test_marks_and_kinds(self):
        # [0.12] and [0.13]
        for group in GROUPS:
            for kinds in some_kinds(group):
                row = marks_of(group, kinds)
                plus, less = apart(group, kinds)
                self.assertEqual(row_paper(group, row), ("sets", plus, less))
                self.assertEqual(part_count(group, row), (sum(kinds), 1))
                sums = [row_sum(group, row, index) for index in range(len(row))]
                self.assertTrue(all(total % divisor == 0 for total, divisor in sums))
                for index in range(0, len(row), 3):
                    near = row[:index] + (row[index] + 1,) + row[index + 1:]
                    self.assertIs(is_mark_row(group, near), part_bottom(group, index) == 1)
                    self.assertEqual(least_multiple(group, near), part_bottom(group, index))
                    self.assertEqual(rest_of_row(group, near), rest_of_row(group, tuple(int(at == index) for at in range(len(row)))))

    def test_sets_and_rows(self):
        # [0.14]
        for group in GROUPS[:10]:
            sets = [MovedSet.of_kinds(group, kinds) for kinds in few_points(group)]
            for one in sets:
                self.assertEqual(built_pair(group, one.marks)[0], one)
                for other in sets[::2]:
                    if one.size * other.size <= 60:
                        self.assertEqual((one + other).marks, row_plus(group, one.marks, other.marks))
                        self.assertEqual((one * other).marks, row_times(group, one.marks, other.marks))
                        self.assertEqual((one * other).kinds, product_kinds(group, one.kinds, other.kinds))
                    if one.size ** other.size <= 60 and other.size < 7:
                        maps = maps_set(one, other)
                        self.assertEqual((maps.marks, maps.marks[-1]), (maps_row(group, one.marks, other.kinds), map_count(group, other.kinds, one.marks)))
                if one.size < 9:
                    total = [sum(members) for members in zip(*(lots_row(group, one.kinds, many) for many in range(one.size + 1)))]
                    self.assertEqual(tuple(total), lots_all_row(group, one.kinds))
                    self.assertEqual(tuple(total), pattern_row(group, one.kinds, 2))
                    if one.size > 1:
                        self.assertEqual(sum(lots_set(one, 2).kinds), share_patterns(group, one.kinds, (2, one.size - 2)))

    def test_down_and_up(self):
        for group in GROUPS[:9]:
            for first in classes(group):
                small = small_group(group, first)
                for kinds in some_kinds(group)[:2]:
                    row = marks_of(group, kinds)
                    self.assertEqual(row_down(group, small, row), marks_of(small, kinds_down(group, small, kinds)))
                    led = kinds_up(group, small, kinds_down(group, small, kinds))
                    # Down and up again is the product with the cosets.
                    cosets = tuple(int(at == class_of(group, first)) for at in range(len(kinds)))
                    self.assertEqual(led, product_kinds(group, kinds, cosets))
                    self.assertEqual(marks_of(group, led), row_up(group, small, row_down(group, small, row)))
                    self.assertEqual(kinds_up(group, small, (0,) * (len(classes(small)) - 1) + (1,)), cosets)
                self.assertEqual(class_indices(group, small)[-1], class_of(group, first))
                places = MovedSet.places_of(small)
                if places.size * group.order // small.order <= 60:
                    up = set_up(places, group)
                    self.assertEqual((up.kinds, up.marks), (kinds_up(group, small, places.kinds), row_up(group, small, places.marks)))
                    self.assertEqual(set_down(up, small).marks, row_down(group, small, up.marks))
                    maps = map_count(group, up.kinds, MovedSet.places_of(group).marks) if max(up.kinds) <= 20 else None
                    if maps is not None:
                        self.assertEqual(maps, map_count(small, places.kinds, row_down(group, small, MovedSet.places_of(group).marks)))

    def test_quotients(self):
        for group in GROUPS:
            for first in classes(group):
                if is_kept(group, first) and group.order // len(first) <= 24:
                    quotient = quotient_group(group, first)
                    for kinds in some_kinds(group)[:2]:
                        left = kinds_left(group, first, kinds)
                        self.assertEqual(marks_of(quotient, left), row_left(group, first, marks_of(group, kinds)))
                        lifted = kinds_lifted(group, first, left)
                        self.assertEqual(marks_of(group, lifted), row_lifted(group, first, marks_of(quotient, left)))
                        self.assertEqual(kinds_left(group, first, lifted), left)
                    self.assertEqual(kinds_of(quotient, (1,) * len(classes(quotient))), (0,) * (len(classes(quotient)) - 1) + (1,))
                    self.assertEqual([image_classes(group, first)[index] for index in quotient_classes(group, first)], list(range(len(classes(quotient)))))
                    moved = MovedSet.of_cosets(group, first)
                    self.assertEqual(set_lifted(group, first, set_left(moved, first)), moved)
                    for row in each_sign_row(quotient) if sign_count(quotient) < 64 else ():
                        self.assert_true(is_sign_row(group, row_lifted(group, first, row)))
                    for row in each_square(quotient):
                        self.assert_true(is_own_square(group, row_lifted(group, first, row)))

    def test_makings_and_quotients(self):
        # What makes the group modulo the moves that can be left out makes the group.
        for group in GROUPS:
            inner = common_part(group)
            self.assert_true(is_kept(group, inner))
            if group.order // len(inner) <= 24:
                quotient = quotient_group(group, inner)
                for many in range(6):
                    self.assertEqual(makings(group, many), makings(quotient, many) * len(inner) ** many)
            for many in range(3):
                if group.order ** many <= 4000:
                    told = list(each_making(group, many))
                    self.assertEqual(len(told), makings(group, many))
                    self.assertTrue(all(made_by(group, one) == group.moves for one in told[::20]))
            total = sum(makings(small_group(group, first), 2) * len(class_members(group, index)) for index, first in enumerate(classes(group)))
            self.assertEqual(total, group.order ** 2)

    def test_moebius_numbers_and_kinds(self):
        # [13.5] by the numbers of stage 16.
        for group in GROUPS[:9]:
            numbers = moebius_row(group)
            whole = part_kinds(group, len(numbers) - 1)
            for index, (size, many) in enumerate(class_sizes(group)):
                self.assertEqual(whole[index][0] * group.order, whole[index][1] * size * many * numbers[index])
            for first in maximal(group, group.moves):
                self.assertEqual((moebius(group, first, group.moves), chain_counts(group, first, group.moves)), (-1, {1: 1}))

    def test_own_squares_and_signs(self):
        # [0.15] and [0.16]: ones less twice an own square are a sign row.
        for group in GROUPS:
            comes_down = does_come_down(group, group.moves)
            self.assertEqual(len(list(each_square(group))) == 2, comes_down)
            self.assertEqual(len(square_rows(group)), len(perfect_classes(group)))
            self.assertEqual(len({last_step(group, one) for one in subgroups(group)}), sum(len(class_members(group, index)) for index in perfect_classes(group)))
            for row in each_square(group):
                signs = tuple(1 - 2 * member for member in row)
                paper = sign_paper(group, signs)
                self.assert_true(is_sign_paper(group, signs, paper))
                self.assertEqual(paper[0], "kinds")
                self.assertEqual(product_kinds(group, paper[1], paper[1]), (0,) * (len(row) - 1) + (1,))
                self.assertTrue(all(is_row_at(group, prime, tuple((member, 1) for member in row)) for prime in (2, 3, 5)))

    def test_signs_and_parts(self):
        for group in GROUPS:
            for kinds in few_points(group):
                parts = [many.bit_length() - 1 for many in pattern_row(group, kinds, 2)]
                self.assertEqual(part_row(group, kinds), tuple((-1) ** many for many in parts))
                self.assertEqual(parts, [sum(part_sizes(group, kinds, index).values()) for index in range(len(parts))])
            for index, row in half_rows(group):
                self.assertEqual(power_kinds(group, kinds_of(group, row), 2), (0,) * (len(row) - 1) + (1,))
                self.assertEqual(marks_of(group, tuple(int(at == index) for at in range(len(row)))), tuple(member + 1 for member in row))

    def test_factors_and_equal_counts(self):
        # [0.17]
        for group in GROUPS:
            singles = single_lot(group)
            self.assertEqual(singles, single_classes(group))
            number, kinds = single_factor(group, singles)[1:]
            point = kinds[:-1] + (kinds[-1] - number,)
            self.assert_true(is_equal_kinds(group, point))
            self.assertEqual(set(single_marks(group, kinds)), {number})
            self.assertEqual((number, kinds), local_factor(group, singles))
            for prime in prime_factors(group.order):
                sylow = max(index for index in prime_lot(group, prime))
                size = class_sizes(group)[sylow][0]
                self.assertEqual(local_factor(group, prime_lot(group, prime))[0] * size, group.order)
                self.assertEqual((sylow_counts(group)[prime], subgroup_counts(group)[size]), (len(class_members(group, sylow)),) * 2)
            if len(singles) <= 24:
                table = lot_table(group, singles)
                self.assertEqual([row[-1] for row in zip(*table)], [mark_table(group)[index][singles[-1]] for index in singles])
            self.assertEqual(len(equal_lattice(group)), len(classes(group)) - len(singles))

    def test_equal_counts_and_patterns(self):
        for group in GROUPS:
            for row in equal_lattice(group):
                one, other = apart(group, row)
                size = marks_of(group, one)[0]
                if size <= 60:
                    self.assertEqual(pattern_powers(group, one), pattern_powers(group, other))
                    self.assertEqual(list(each_pattern_count(group, one)), list(each_pattern_count(group, other)))
                    sets = MovedSet.of_kinds(group, one), MovedSet.of_kinds(group, other)
                    self.assertEqual(match_paper(*sets)[0], "class")
                    self.assert_true(are_equal_counts(*sets))
                    if size <= 12:
                        self.assert_true(is_equal_paper(*sets, equal_paper(*sets)))

    def test_patterns(self):
        for group in GROUPS[:9]:
            for kinds in few_points(group):
                moved = MovedSet.of_kinds(group, kinds)
                for colours in (0, 1, 2, 3):
                    row = pattern_row(group, kinds, colours)
                    self.assertEqual(row, maps_row(group, (colours,) * len(row), kinds))
                    self.assertEqual(patterns(group, kinds, colours), part_count(group, row)[0])
                    if colours ** moved.size <= 60:
                        base = MovedSet.of_kinds(group, (0,) * (len(kinds) - 1) + (colours,))
                        self.assertEqual(pattern_kinds(group, kinds, colours), maps_set(base, moved).kinds)

    def test_roots(self):
        for group in GROUPS:
            orders = group.order_counts()
            for number in (1, 2, 3, 4, 6, 10, 12, 60):
                self.assertEqual(roots_count(group, number), sum(many for order, many in orders.items() if number % order == 0))
            self.assertEqual(sorted(orders), sorted({order_of(move) for move in group}))

    def test_desks(self):
        # [19.4]: a desk that holds kinds of other parts.
        for group in GROUPS:
            many = len(classes(group))
            point = (0,) * (many - 1) + (1,)
            for kinds, promise in [(kinds, ("squares",)) for kinds in square_kinds(group)] + [(kinds_of(group, row), ("signs",)) for _, row in half_rows(group)] + [
                    (pattern_kinds(group, few_points(group)[0], 2), ("set",)), (single_factor(group, single_lot(group))[2], ("mark", 0, 1, 120))]:
                desk = Desk(group, kinds)
                self.assertTrue(desk.promise(promise) and promise in desk and does_hold(group, kinds, promise))
                self.assertEqual(desk.marks, marks_of(group, kinds))
                copied = read_kinds(write_kinds(desk.kinds), many)
                self.assertEqual(Desk(read_group(write_group(group)), copied), desk.at(0))
                if promise == ("squares",):
                    # An own square multiplied by itself stays as it is, and ones less it is one, too.
                    self.assertEqual(desk.do((("times", kinds),)), 1)
                    self.assertEqual(desk.do((("many", -1), ("plus", point))), 2)
                    self.assertEqual(desk.marks, tuple(1 - mark for mark in marks_of(group, kinds)))
                if promise == ("signs",):
                    self.assertEqual(desk.do((("times", kinds), ("times", kinds))), 1)
                    self.assertEqual((desk.do((("times", kinds),)), desk.kinds), (2, point))
                before = desk.kinds, desk.version
                with self.assertRaises(Refused) as caught:
                    desk.do((("many", -130), ("less", tuple(130 * member for member in point)), ("less", (131,) * many)))
                self.assertEqual((caught.exception.reason[:2], (desk.kinds, desk.version)), (("broken", promise), before))

    def test_same_groups(self):
        for one, other in ((THREE, Group.every(3)), (MIRRORS, beside(THREE, Group.turning(2))), (Group.turning(12), many_turning(3, 4)), (PAIRS, many_turning(2, 2))):
            self.assert_true(are_same(one, other))
            for told in (class_sizes, mark_table, lambda group: sorted(moebius_row(group)), sign_count, lambda group: makings(group, 3), subgroup_counts,
                         lambda group: len(equal_lattice(group))):
                if one.places == other.places or told not in (class_sizes, mark_table):
                    self.assertEqual(told(one), told(other))


class NotTrue(Case):
    """[0.18]"""

    def test_equal_marks_at_single_moves(self):
        one, other = MovedSet.of_kinds(PAIRS, (1, 0, 0, 0, 2)), MovedSet.of_kinds(PAIRS, (0, 1, 1, 1, 0))
        self.assertEqual(counts_of(one), counts_of(other))
        self.assertNotEqual(one.kinds, other.kinds)

    def test_row_sum_at_the_first_class(self):
        total, divisor = row_sum(THREE, (1, 1, 1, 0), 0)
        self.assertEqual(total % divisor, 0)
        self.assert_false(is_mark_row(THREE, (1, 1, 1, 0)))

    def test_subgroups_that_come_down(self):
        self.assertTrue(all(does_come_down(FIVE, one) for one in subgroups(FIVE)[:-1]))
        self.assert_false(does_come_down(FIVE, FIVE.moves))

    def test_groups_without_a_half(self):
        self.assertEqual((half_rows(EVEN), sign_count(EVEN)), ((), 4))

    def test_square_of_a_row(self):
        row = (1, 1, -1, 1)
        self.assert_true(is_mark_row(THREE, row_times(THREE, row, row)))
        self.assert_false(is_mark_row(THREE, row))


class Values(Case):

    def test_every_value_is_judged(self):
        # [0.5]
        places = MovedSet.places_of(THREE)
        unit, row, kinds = THREE.moves[:1], (1, 1, 1, 1), (0, 1, 0, 0)
        judged = [is_integer, is_prime, is_ratio, is_table]
        passed = [(is_move, 3), (is_turning_move, (1, 0, 2), (0, 2, 1)), (is_same_paper, THREE, THREE), (is_subgroup, THREE), (is_down_paper, THREE, unit),
                  (is_match_paper, places, places), (is_row_paper, THREE, row), (is_rest, THREE), (is_own_square, THREE), (is_square_paper, THREE, row),
                  (is_row_at, THREE, 2), (is_sign_row, THREE), (is_sign_paper, THREE, row), (is_equal_kinds, THREE), (does_go_along, places, places),
                  (is_equal_paper, places, places), (is_closed_lot, THREE), (is_made_of, THREE, (0, 1)), (is_single_factor, THREE, (3,)), (is_promise, THREE),
                  (is_paper_against, THREE, kinds, ("free",))]
        deep = (((((((1,),),),),),),)
        values = WRONG + (Desk(THREE, kinds), places, deep, ("kinds", deep), ("factor", 1, deep), ("table", (deep,)), ("move", deep), ("mark", deep, 0, 1), (deep,) * 4,
                          ("sum", deep), ("makers", deep), ("chain", deep), ("map", deep), ("kind", deep, deep), [[[[[[[[]]]]]]]], {"set": ("set",)},
                          (("set",),), ((THREE, 1), (1, 1), (1, 1), (1, 1)), (Desk(THREE, kinds),), ((places, 0, 0),) * 3, 10 ** 99, "x" * 3000)
        for value in values:
            for call in judged:
                self.assertIn(call(value), (True, False))
                self.assertIs(call(value).__class__, bool)
            for call, *right in passed:
                self.assertIs(call(*right, value).__class__, bool)
        named = {call.__name__ for call in judged} | {call.__name__ for call, *_ in passed}
        for told in FUNCTIONS.values():
            for line in told:
                name, _, parameters = line.partition("(")
                self.assertEqual("value" in parameters, name in named, line)
                if name.startswith(("is_", "are_", "has_", "have_", "does_")) and "value" not in parameters:
                    self.assertIn(name, ("is_kept", "is_perfect", "does_come_down", "is_firm", "is_mark_row", "are_same", "are_equal_counts", "is_meet", "does_hold"))

    def test_no_groups(self):
        # [0.4] and [0.7]: the group is judged ahead of all that stands behind it.
        for module, told in FUNCTIONS.items():
            for line in told:
                call = module.__dict__[line.partition("(")[0]]
                parameters = list(inspect.signature(call).parameters.values())
                if parameters[0].name == "group":
                    behind = [None for one in parameters[1:] if one.kind is one.POSITIONAL_OR_KEYWORD]
                    for value in NO_GROUPS:
                        if inspect.isgeneratorfunction(call):
                            found = call(value, *behind)
                            self.assert_raises(InvalidGroup, next, found)
                        else:
                            self.assert_raises(InvalidGroup, call, value, *behind)

    def test_no_sets(self):
        for module, told in FUNCTIONS.items():
            for line in told:
                call = module.__dict__[line.partition("(")[0]]
                parameters = list(inspect.signature(call).parameters)
                if parameters[0] == "moved":
                    for value in NO_SETS:
                        found = call(value, *[None for _ in parameters[1:]]) if inspect.isgeneratorfunction(call) else None
                        if found is None:
                            self.assert_raises(InvalidSet, call, value, *[None for _ in parameters[1:]])
                        else:
                            self.assert_raises(InvalidSet, next, found)


class Objects(Case):

    def things(self):
        desk = Desk(THREE, (0, 1, 0, 0))
        desk.promise(("set",))
        return [THREE, SQUARE, Group.every(3), MovedSet.places_of(THREE), MovedSet.places_of(Group.every(3)), MovedSet.of_kinds(THREE, (0, 0, 0, 3)), desk,
                desk.at(0), desk.at(1)]

    def test_equality(self):
        # [0.2]
        things = self.things()
        equal = {(0, 2), (2, 0), (3, 4), (4, 3), (6, 8), (8, 6)}
        for one, first in enumerate(things):
            for other, second in enumerate(things):
                right = one == other or (one, other) in equal
                self.assertIs(first == second, right)
                self.assertIs(first != second, not right)
            for value in WRONG:
                if not isinstance(value, (Group, MovedSet)):
                    self.assertIs(first == value, False)
                    self.assertIs(first != value, True)
                    self.assertIs(value == first, False)

    def test_membership(self):
        desk = self.things()[6]
        for value in WRONG + (desk, (desk,)):
            self.assertIs(value in THREE, False)
            self.assertIs(value in desk, False)
        self.assertTrue(("set",) in desk and (0, 1, 2) in THREE)

    def test_operators(self):
        places = MovedSet.places_of(THREE)
        for thing in self.things():
            for value in (None, 1, "a", (0,), [0], {}, 2, True, THREE, Desk(THREE, (0, 0, 0, 1))):
                for call in (lambda: thing + value, lambda: value + thing, lambda: thing * value, lambda: value * thing, lambda: thing - value, lambda: thing < value,
                             lambda: thing // value, lambda: thing & value):
                    self.assertRaises(TypeError, call)
        for value in WRONG:
            if not isinstance(value, MovedSet):
                self.assertRaises(TypeError, lambda: places + value)
                self.assertRaises(TypeError, lambda: places * value)
        self.assertRaises(InvalidOperation, lambda: places + MovedSet.places_of(SQUARE))
        for call in (lambda: -places, lambda: places[0], lambda: THREE[0], lambda: int(THREE), lambda: next(places)):
            self.assertRaises(TypeError, call)

    def test_iteration(self):
        self.assertRaises(TypeError, iter, MovedSet.places_of(THREE))
        self.assertRaises(TypeError, list, MovedSet.places_of(THREE))
        self.assertEqual((list(THREE), list(self.things()[6])), (list(THREE.moves), [("set",)]))

    def test_returned_dicts_are_new(self):
        for call in (lambda: prime_factors(12), THREE.order_counts, lambda: part_sizes(THREE, (0, 1, 0, 0), 1), lambda: chain_counts(SQUARE, SQUARE.moves[:1], SQUARE.moves),
                     lambda: subgroup_counts(THREE), lambda: sylow_counts(THREE)):
            found = call()
            right = dict(found)
            self.assertEqual(list(found), sorted(found))
            found.clear()
            self.assertEqual(call(), right)

    def test_only_desks_change(self):
        group, places = Group.every(3), MovedSet.places_of(THREE)
        before = [str(group), group.moves, group.makers, group.order_counts(), places.actions, places.kinds, places.marks, str(places)]
        for value in WRONG[:8]:
            for call in (lambda: group.word(value), lambda: group.of_word((value,)), lambda: places.led(value, 0), lambda: places.stabilizer(value), lambda: places + value):
                try:
                    call()
                except (ValueError, IndexError, TypeError):
                    pass
        list(each_making(group, 2)), list(each_sign_row(group)), list(table_lines(group)), (places * places, places + places)
        for name, value in (("order", 7), ("moves", ()), ("places", 4), ("makers", ()), ("is_commutative", True)):
            self.assertRaises(AttributeError, setattr, group, name, value)
        for name, value in (("size", 7), ("kinds", ()), ("marks", ()), ("group", SQUARE), ("actions", ())):
            self.assertRaises(AttributeError, setattr, places, name, value)
        desk = Desk(THREE, (0, 1, 0, 0))
        for name, value in (("kinds", (0, 0, 0, 0)), ("marks", ()), ("group", SQUARE), ("promises", (("set",),)), ("version", 3)):
            self.assertRaises(AttributeError, setattr, desk, name, value)
        after = [str(group), group.moves, group.makers, group.order_counts(), places.actions, places.kinds, places.marks, str(places)]
        self.assertEqual(before, after)

    def test_generators_begin_anew(self):
        for told in (lambda: each_making(THREE, 2), lambda: each_sign_row(SQUARE), lambda: each_pattern_count(THREE, (0, 1, 0, 0)), lambda: table_lines(FIVE)):
            one, other = told(), told()
            self.assertEqual([next(one), next(one)], [next(other), next(other)])
            self.assertEqual(list(one), list(other))
            self.assertEqual(list(one), [])

    def test_rows_of_all_signs(self):
        # Sign rows, own squares, and rests of one group, all told by the mark table.
        for row in product((-1, 0, 1), repeat=4):
            kinds = kinds_of(THREE, row)
            self.assertEqual(kinds is not None, is_mark_row(THREE, row))
            self.assertIs(is_sign_row(THREE, row), kinds is not None and 0 not in row)
            self.assertIs(is_own_square(THREE, row), kinds is not None and -1 not in row)
            self.assertIs(set(rest_of_row(THREE, row)) == {0}, kinds is not None)


if __name__ == "__main__":
    unittest.main()
