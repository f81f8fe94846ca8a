"""[0.1] to [0.12]: what holds of all that has landed."""

import inspect
import unittest

from helpers import ALONE, Case, PAIRS, SQUARE, THREE
from movemarks import errors
from movemarks.base import integers, tables
from movemarks.count import counts
from movemarks.desk import desks, promises
from movemarks.desk.desks import Desk
from movemarks.equal import singles
from movemarks.factor import factors
from movemarks.lattice import moebius, steps, subgroups
from movemarks.made import changes, powers, quotients, sums
from movemarks.mark import marks, rows
from movemarks.move import groups, moves
from movemarks.move.groups import Group
from movemarks.point import sets
from movemarks.point.sets import MovedSet
from movemarks.square import signs, squares
from movemarks.text import texts

ALONE_OF_FOUR = Group(4, ())
FUNCTIONS = {
    integers: ("is_integer(value)", "is_prime(value)", "is_ratio(value)", "prime_factors(number)", "part_at(prime, number)",
               "common_divisor(numbers)", "common_multiple(numbers)", "lowest(top, bottom)"),
    tables: ("is_table(value)", "table_product(one, other)", "determinant(table)", "rank(table)", "kernel(table)",
             "elementary_divisors(table)"),
    moves: ("is_move(places, value)", "unit_of(places)", "product_of(one, other)", "undone(move)", "power_of(move, number)",
            "order_of(move)", "sign_of(move)", "cycles(move)", "still_places(move)", "move_of_cycles(places, rings)",
            "turned_move(move, by)", "turning_move(one, other)", "is_turning_move(one, other, value)"),
    groups: ("beside(one, other)", "are_same(one, other)", "same_paper(one, other)", "is_same_paper(one, other, value)"),
    subgroups: ("subgroups(group)", "classes(group)", "class_of(group, subgroup)", "class_members(group, index)",
                "class_sizes(group)", "made_by(group, moves)", "is_subgroup(group, value)", "meet_of(group, one, other)",
                "made_together(group, one, other)", "keeper(group, subgroup)", "is_kept(group, subgroup)",
                "turned(group, subgroup, move)", "small_group(group, subgroup)", "lies_table(group)",
                "maximal(group, subgroup)", "cosets(group, subgroup)", "each_flag(group)"),
    sets: ("match_paper(one, other)", "is_match_paper(one, other, value)"),
    steps: ("commutators(group, subgroup)", "last_step(group, subgroup)", "levels(group, subgroup)", "is_perfect(group, subgroup)",
            "does_come_down(group, subgroup)", "perfect_classes(group)", "step_classes(group)", "core_at(group, subgroup, prime)",
            "is_firm(group, subgroup, prime)", "firm_classes(group, prime)", "core_classes(group, prime)",
            "down_paper(group, subgroup)", "is_down_paper(group, subgroup, value)", "each_level(group)"),
    marks: ("mark_table(group)", "keeper_indices(group)", "mark_by(group, index, other, *, road='turned')",
            "still_cosets(group, subgroup, other)", "coset_row(group, index)", "each_coset_row(group)", "marks_of(group, kinds)",
            "kinds_of(group, row)", "part_sum(group, row)"),
    rows: ("row_sum(group, row, index)", "is_mark_row(group, row)", "row_paper(group, row)", "is_row_paper(group, row, value)",
           "first_fault(group, row)", "rest_of_row(group, row)", "is_rest(group, value)", "each_rest(group)", "share(group)",
           "least_multiple(group, row)", "built_pair(group, row)"),
    sums: ("row_plus(group, one, other)", "row_times(group, one, other)", "double_cosets(group, one, other)",
           "each_double(group, one, other)", "pair_kinds(group, index, number)", "product_kinds(group, one, other)",
           "power_kinds(group, kinds, many)", "marks_equation(group, kinds)"),
    changes: ("class_indices(group, small)", "row_down(group, small, row)", "row_up(group, small, row)",
              "kinds_down(group, small, kinds)", "kinds_up(group, small, kinds)", "set_down(moved, small)", "set_up(moved, group)",
              "map_count(group, kinds, row)"),
    powers: ("part_sizes(group, kinds, index)", "row_up_power(group, small, row)", "maps_row(group, row, kinds)",
             "lots_row(group, kinds, many)", "lots_all_row(group, kinds)", "up_power_set(moved, group)", "maps_set(one, other)",
             "lots_set(moved, many)", "each_lot(moved, many)"),
    quotients: ("quotient_group(group, subgroup)", "image_of(group, subgroup, move)", "images_of(group, subgroup, other)",
                "behind(group, subgroup, small)", "quotient_classes(group, subgroup)", "image_classes(group, subgroup)",
                "row_left(group, subgroup, row)", "kinds_left(group, subgroup, kinds)", "row_lifted(group, subgroup, row)",
                "kinds_lifted(group, subgroup, kinds)", "set_left(moved, subgroup)", "set_lifted(group, subgroup, moved)"),
    squares: ("is_own_square(group, value)", "square_rows(group)", "square_kinds(group)", "each_square(group)",
              "square_paper(group, row)", "is_square_paper(group, row, value)", "is_row_at(group, prime, value)",
              "square_rows_at(group, prime)", "part_kinds(group, index)", "part_bottom(group, index)",
              "kinds_of_ratios(group, ratios)"),
    signs: ("is_sign_row(group, value)", "sign_map(group, row, index)", "sign_paper(group, row)", "is_sign_paper(group, row, value)",
            "sign_basis(group)", "sign_count(group)", "each_sign_row(group)", "part_row(group, kinds)", "half_rows(group)"),
    singles: ("single_classes(group)", "single_marks(group, kinds)", "counts_of(moved)", "equal_lattice(group)",
              "is_equal_kinds(group, value)", "apart(group, kinds)", "are_equal_counts(one, other)", "does_go_along(one, other, value)",
              "equal_paper(one, other)", "is_equal_paper(one, other, value)", "pair_parts(one, other)"),
    moebius: ("moebius(group, low, high)", "chain_counts(group, low, high)", "moebius_row(group)", "makings(group, many)",
              "making_powers(group)", "least_makers(group)", "each_making(group, many)", "is_meet(group, subgroup)",
              "common_part(group)", "chain_sum(group, prime)"),
    factors: ("closed_lot(group, lot)", "is_closed_lot(group, value)", "prime_lot(group, prime)", "single_lot(group)",
              "is_made_of(group, lot, value)", "single_factor(group, lot)", "is_single_factor(group, lot, value)",
              "local_factor(group, lot)", "lot_table(group, lot)", "lot_divisors(group, lot)"),
    counts: ("part_count(group, row)", "patterns(group, kinds, colours)", "pattern_row(group, kinds, colours)",
             "pattern_kinds(group, kinds, colours)", "pattern_powers(group, kinds)", "share_patterns(group, kinds, shares)",
             "each_pattern_count(group, kinds)", "roots_count(group, number)", "subgroup_counts(group)", "sylow_counts(group)"),
    promises: ("is_promise(group, value)", "does_hold(group, kinds, promise)", "paper_against(group, kinds, promise)",
               "is_paper_against(group, kinds, promise, value)"),
    texts: ("write_move(move)", "read_move(text, places)", "write_group(group)", "read_group(text)", "write_row(row)", "read_row(text)",
            "write_kinds(kinds)", "read_kinds(text, length)", "table_lines(group)"),
}
CONSTANTS = {
    integers: {"MAX_PRIME": 100, "MAX_FACTORED": 10 ** 9, "MOST_NUMBERS": 1000}, tables: {"MAX_SIZE": 60},
    moves: {"MAX_PLACES": 24, "MAX_POWER": 10 ** 30}, groups: {"MAX_ORDER": 120, "MAX_SUBGROUPS": 200, "MAX_CLASSES": 60, "MAX_MAKERS": 6},
    subgroups: {"MAX_MADE_BY": 24, "MAX_MAKERS": 6}, steps: {"CHAIN": "chain", "PERFECT": "perfect"}, sets: {"MOST_POINTS": 60},
    marks: {"ROADS": ("cosets", "doubles", "turned")}, sums: {"MAX_POWERED": 12}, changes: {"MAX_MAPPED": 20},
    powers: {"MAX_POINTS": 60, "MAX_LISTED": 600, "MAX_MANY": 60}, quotients: {"MAX_COSETS": 24}, squares: {"SUM": "sum", "STEPS": "steps"},
    singles: {"MAX_PAIRED": 12, "MOST_ENTRY": 1000}, moebius: {"MAX_MAKERS": 30, "MAX_TUPLES": 4000}, factors: {"MAX_LOT": 24},
    counts: {"MAX_COLOURS": 100, "MOST_SHARES": 3, "MOST_SHARED": 24}, desks: {"MAX_PROMISES": 8, "MAX_DEEDS": 20},
    texts: {"MOST_SIGNS": 3000, "MOST_MEMBERS": 60},
}
METHODS = {
    Group: ("__init__(self, places, makers)", "word(self, move)", "of_word(self, word)", "order_counts(self)"),
    MovedSet: ("__init__(self, group, size, actions)", "led(self, move, point)", "stabilizer(self, point)",
               "still(self, subgroup)", "parts(self)", "__add__(self, other)", "__mul__(self, other)"),
    Desk: ("__init__(self, group, kinds)", "do(self, deeds)", "would(self, deeds)", "promise(self, promise)", "drop(self, promise)",
           "undo(self, count=1)", "at(self, version)"),
}
PROPERTIES = {Group: ("places", "makers", "order", "moves", "is_commutative"), MovedSet: ("group", "size", "actions", "kinds", "marks"),
              Desk: ("group", "kinds", "marks", "promises", "version")}
CLASS_METHODS = {
    Group: ("turning(number)", "mirrors(number)", "every(number)", "even(number)"),
    MovedSet: ("of_cosets(group, subgroup)", "of_kinds(group, kinds)", "places_of(group)"),
}
OPERATORS = {Group: ("__contains__", "__eq__", "__len__", "__iter__", "__str__"), MovedSet: ("__eq__", "__len__", "__str__"),
             Desk: ("__contains__", "__eq__", "__len__", "__iter__", "__str__")}


def written(name, call):
    return name + str(inspect.signature(call))


class Interface(Case):

    def test_functions(self):
        for module, told in FUNCTIONS.items():
            for line in told:
                name = line.partition("(")[0]
                call = module.__dict__[name]
                self.assertEqual(written(name, call), line)
                self.assertEqual(call.__module__, module.__name__)

    def test_methods(self):
        for owner, told in METHODS.items():
            for line in told:
                name = line.partition("(")[0]
                self.assertEqual(written(name, owner.__dict__[name]), line)
        for owner, told in CLASS_METHODS.items():
            for line in told:
                name = line.partition("(")[0]
                self.assertIsInstance(owner.__dict__[name], classmethod)
                self.assertEqual(written(name, getattr(owner, name)), line)
        for owner, told in OPERATORS.items():
            for name in told:
                self.assertIn(name, owner.__dict__)
        for owner, told in PROPERTIES.items():
            for name in told:
                self.assertIsInstance(owner.__dict__[name], property)

    def test_constants(self):
        for module, told in CONSTANTS.items():
            for name, value in told.items():
                self.assertEqual(module.__dict__[name], value)
                self.assertIs(module.__dict__[name].__class__, value.__class__)

    def test_classes_stand_in_their_files(self):
        self.assertEqual((Group.__module__, MovedSet.__module__), ("movemarks.move.groups", "movemarks.point.sets"))
        self.assertEqual(Desk.__module__, "movemarks.desk.desks")
        self.assertEqual(errors.MarkError.__module__, "movemarks.errors")

    def test_generators(self):
        for module in FUNCTIONS:
            for line in FUNCTIONS[module]:
                call = module.__dict__[line.partition("(")[0]]
                self.assertIs(inspect.isgeneratorfunction(call), line.startswith(("each_", "table_lines")), line)


class Calls(Case):

    def test_equal_calls(self):
        for _ in range(2):
            self.assertEqual(Group(3, THREE.makers).word((2, 1, 0)), THREE.word((2, 1, 0)))
            self.assertEqual(list(subgroups.each_flag(SQUARE)), list(subgroups.each_flag(SQUARE)))
            self.assertEqual(groups.same_paper(THREE, Group.every(3)), groups.same_paper(THREE, THREE))
            self.assertEqual(moves.turning_move((1, 0, 2), (0, 2, 1)), moves.turning_move((1, 0, 2), (0, 2, 1)))
            self.assertEqual(steps.down_paper(SQUARE, SQUARE.moves), steps.down_paper(Group.mirrors(4), SQUARE.moves))
            self.assertEqual(marks.mark_table(SQUARE), marks.mark_table(Group.mirrors(4)))
            self.assertEqual(rows.row_paper(THREE, (1, 0, 0, 1)), rows.row_paper(Group.every(3), (1, 0, 0, 1)))
            self.assertEqual(squares.square_paper(THREE, (1, 0, 0, 1)), squares.square_paper(Group.every(3), (1, 0, 0, 1)))
            self.assertEqual(signs.sign_paper(THREE, (1, 1, -1, 1)), signs.sign_paper(Group.every(3), (1, 1, -1, 1)))
            self.assertEqual(singles.equal_paper(MovedSet.places_of(PAIRS), MovedSet.places_of(PAIRS)),
                             singles.equal_paper(MovedSet.places_of(PAIRS), MovedSet.places_of(Group(4, PAIRS.makers[::-1]))))
            self.assertEqual(factors.single_factor(THREE, (1, 2)), factors.single_factor(Group.every(3), (1, 2)))
            self.assertEqual(list(moebius.each_making(SQUARE, 2)), list(moebius.each_making(Group.mirrors(4), 2)))
            self.assertEqual(counts.pattern_kinds(THREE, (0, 1, 0, 0), 3), counts.pattern_kinds(Group.every(3), (0, 1, 0, 0), 3))
            self.assertEqual(promises.paper_against(THREE, (0, -1, 0, -1), ("set",)), promises.paper_against(Group.every(3), (0, -1, 0, -1), ("set",)))
            self.assertEqual(texts.read_group("3: (0 1) (0 1 2)").makers, texts.read_group("3: (0 1) (0 1 2)").makers)
            self.assertEqual(list(powers.each_lot(MovedSet.places_of(SQUARE), 2)), list(powers.each_lot(MovedSet.places_of(SQUARE), 2)))

    def test_tuples(self):
        told = (subgroups.subgroups(SQUARE), subgroups.classes(SQUARE), subgroups.class_sizes(SQUARE),
                subgroups.lies_table(SQUARE), subgroups.cosets(SQUARE, SQUARE.moves[:1]), SQUARE.moves, SQUARE.makers,
                subgroups.maximal(SQUARE, SQUARE.moves), subgroups.class_members(SQUARE, 1), next(subgroups.each_flag(SQUARE)),
                marks.mark_table(SQUARE), steps.levels(SQUARE, SQUARE.moves), sums.double_cosets(SQUARE, SQUARE.moves, SQUARE.moves),
                marks.still_cosets(SQUARE, SQUARE.moves[:1], SQUARE.moves), MovedSet.places_of(SQUARE).actions, MovedSet.places_of(SQUARE).parts(), moves.cycles((1, 0, 2)),
                tables.table_product(((1,),), ((2,),)), tables.kernel(((0, 0),)), signs.sign_basis(SQUARE), signs.half_rows(SQUARE),
                singles.equal_lattice(SQUARE), singles.apart(PAIRS, (1,) * 5), moebius.making_powers(SQUARE), moebius.common_part(SQUARE),
                singles.pair_parts(MovedSet.places_of(PAIRS), MovedSet.places_of(PAIRS)), factors.lot_table(SQUARE, (1, 2)),
                singles.equal_paper(MovedSet.places_of(PAIRS), MovedSet.places_of(PAIRS))[1])
        for value in told:
            self.assertIs(value.__class__, tuple)
            for member in value:
                self.assertIs(member.__class__, tuple)
        for row in (MovedSet.places_of(SQUARE).kinds, MovedSet.places_of(SQUARE).marks, SQUARE.word(SQUARE.moves[3]),
                    tables.elementary_divisors(((1,),)), MovedSet.places_of(SQUARE).still(SQUARE.moves),
                    steps.perfect_classes(SQUARE), steps.core_classes(SQUARE, 2), marks.keeper_indices(SQUARE),
                    marks.coset_row(SQUARE, 1), next(marks.each_coset_row(SQUARE)), marks.kinds_of(PAIRS, (0,) * 5),
                    rows.row_sum(PAIRS, (0,) * 5, 1), rows.rest_of_row(PAIRS, (1,) * 5), next(rows.each_rest(PAIRS)),
                    changes.class_indices(PAIRS, ALONE_OF_FOUR), changes.row_up(PAIRS, PAIRS, (1,) * 5),
                    changes.kinds_down(PAIRS, ALONE_OF_FOUR, (1,) * 5), powers.lots_row(PAIRS, (1,) * 5, 2),
                    powers.maps_row(PAIRS, (1,) * 5, (1,) * 5), powers.row_up_power(PAIRS, PAIRS, (1,) * 5),
                    quotients.image_of(PAIRS, PAIRS.moves, PAIRS.moves[1]), quotients.row_left(PAIRS, PAIRS.moves, (1,) * 5),
                    quotients.behind(PAIRS, PAIRS.moves, ((0,),)), quotients.kinds_lifted(PAIRS, PAIRS.moves, (1,)),
                    squares.part_kinds(PAIRS, 2), squares.square_rows(PAIRS), squares.square_rows_at(PAIRS, 2),
                    squares.kinds_of_ratios(PAIRS, ((1, 2),) * 5), sums.pair_kinds(PAIRS, 1, 2), sums.marks_equation(PAIRS, (1,) * 5), sums.row_plus(ALONE, (1,), (1,)),
                    signs.sign_map(PAIRS, (1,) * 5, 2), next(signs.each_sign_row(PAIRS)), signs.part_row(PAIRS, (1,) * 5),
                    signs.half_rows(PAIRS)[0], signs.sign_paper(PAIRS, (1,) * 5)[1], singles.single_classes(PAIRS),
                    singles.single_marks(PAIRS, (1,) * 5), singles.counts_of(MovedSet.places_of(PAIRS)), moebius.moebius_row(PAIRS),
                    moebius.making_powers(PAIRS)[0], next(moebius.each_making(PAIRS, 2)), factors.closed_lot(PAIRS, (4,)),
                    factors.prime_lot(PAIRS, 2), factors.single_lot(PAIRS), factors.single_factor(PAIRS, (4,))[2],
                    factors.local_factor(PAIRS, (4,)), factors.local_factor(PAIRS, (4,))[1], factors.lot_divisors(PAIRS, (4,)),
                    counts.part_count(PAIRS, (1,) * 5), counts.pattern_row(PAIRS, (1,) * 5, 2), counts.pattern_kinds(PAIRS, (1,) * 5, 2),
                    counts.pattern_powers(PAIRS, (1,) * 5), counts.pattern_powers(PAIRS, (1,) * 5)[0], Desk(PAIRS, (1,) * 5).kinds,
                    Desk(PAIRS, (1,) * 5).marks, Desk(PAIRS, (1,) * 5).promises, promises.paper_against(PAIRS, (1,) * 5, ("free",)),
                    texts.read_move("(0 1)", 3), texts.read_row("1,2"), texts.read_kinds("[0]", 5), texts.read_group("2: (0 1)").makers):
            self.assertIs(row.__class__, tuple)

    def test_generators_do_not_meet(self):
        one, other = rows.each_rest(THREE), rows.each_rest(THREE)
        self.assertEqual((next(one), next(one), next(other)), ((0, 0, 0, 0), (0, 0, 1, 0), (0, 0, 0, 0)))
        one, other = iter(THREE), iter(THREE)
        self.assertEqual((next(one), next(one), next(other)), ((0, 1, 2), (0, 2, 1), (0, 1, 2)))
        one, other = signs.each_sign_row(ALONE), signs.each_sign_row(ALONE)
        self.assertEqual((next(one), next(one), next(other)), ((-1,), (1,), (-1,)))
        flags, more = subgroups.each_flag(THREE), subgroups.each_flag(THREE)
        self.assertEqual(next(flags), next(more))

    def test_true_is_not_one(self):
        self.assertFalse(moves.is_move(2, (True, 0)) or integers.is_integer(True) or integers.is_ratio((True, 2)))
        self.assertFalse(tables.is_table(((True,),)) or (True, False) in Group(2, ((1, 0),)))
        self.assertFalse(subgroups.is_subgroup(PAIRS, ((0, True, 2, 3),)))
        self.assertFalse(moves.is_turning_move((1, 0), (1, 0), (False, True)))
        self.assertFalse(groups.is_same_paper(ALONE, Group(2, ()), ("makers", ((False, True),))))
        self.assertFalse(rows.is_rest(THREE, (True, 0, 0, 0)) or rows.is_row_paper(THREE, (1, 0, 0, 1), ("sum", 2, True, 2)))
        self.assertFalse(steps.is_down_paper(ALONE, ALONE.moves, ("chain", (((False,),),))))
        self.assertFalse(squares.is_own_square(ALONE, (True,)) or squares.is_square_paper(ALONE, (1,), ("sum", (False,))))
        self.assertFalse(squares.is_row_at(ALONE, 2, ((True, 1),)) or squares.is_row_at(ALONE, 2, ((1, True),)))
        self.assertFalse(signs.is_sign_row(ALONE, (True,)) or signs.is_sign_paper(ALONE, (1,), ("kinds", (True,))))
        self.assertFalse(singles.is_equal_kinds(PAIRS, (True, -1, -1, -1, 2)))
        places = MovedSet.places_of(ALONE)
        self.assertFalse(singles.does_go_along(places, places, ((True,),)) or singles.is_equal_paper(places, places, ("table", ((True,),))))
        self.assertFalse(factors.is_closed_lot(ALONE, (False,)) or factors.is_made_of(ALONE, (0,), (True,)))
        self.assertFalse(factors.is_single_factor(ALONE, (0,), ("factor", True, (1,))))
        self.assertFalse(promises.is_promise(ALONE, ("mark", False, 0, 1)) or promises.is_promise(ALONE, ("parts", 0, True)))
        self.assertFalse(promises.is_paper_against(ALONE, (1,), ("parts", 0, 0), ("parts", True)))
        self.assertTrue(subgroups.is_subgroup(PAIRS, ((0, 1, 2, 3),)))


class Order(Case):

    def test_subgroups_by_sizes_then_as_tuples(self):
        told = subgroups.subgroups(SQUARE)
        self.assertEqual([len(one) for one in told], [1, 2, 2, 2, 2, 2, 4, 4, 4, 8])
        self.assertEqual(list(told[1:6]), sorted(told[1:6]))
        self.assertEqual(told[1], ((0, 1, 2, 3), (0, 3, 2, 1)))
        self.assertEqual(told[2], ((0, 1, 2, 3), (1, 0, 3, 2)))

    def test_classes_by_first_subgroups(self):
        first = subgroups.classes(SQUARE)
        self.assertEqual(list(first), sorted(first, key=lambda one: (len(one), one)))
        self.assertEqual(subgroups.class_of(SQUARE, ((0, 1, 2, 3), (2, 1, 0, 3))), 1)

    def test_rearrangements_of_products(self):
        corners = MovedSet.places_of(SQUARE)
        turn, flip = SQUARE.makers
        both = moves.product_of(turn, flip)
        self.assertEqual([corners.led(both, point) for point in range(4)],
                         [corners.led(turn, corners.led(flip, point)) for point in range(4)])

    def test_alike_exactly_if_kinds_are_equal(self):
        places = MovedSet.places_of(THREE)
        told = MovedSet.of_kinds(THREE, places.kinds)
        self.assertEqual(sets.match_paper(places, told)[0], "map")
        self.assertEqual(sets.match_paper(places, MovedSet.of_kinds(THREE, (0, 0, 0, 3)))[0], "class")


if __name__ == "__main__":
    unittest.main()
