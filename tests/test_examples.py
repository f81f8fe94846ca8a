"""The examples of the document."""

import unittest

from movemarks import errors
from movemarks.base import integers, tables
from movemarks.count import counts
from movemarks.desk import desks, promises
from movemarks.equal import singles
from movemarks.factor import factors
from movemarks.lattice import moebius, steps, subgroups
from movemarks.made import changes, powers, quotients, sums
from movemarks.mark import marks, rows
from movemarks.move import groups, moves
from movemarks.point import sets
from movemarks.square import signs, squares
from movemarks.text import texts

EXAMPLES = r"""
>>> THREE = Group(3, ((1, 0, 2), (1, 2, 0)))
>>> SQUARE = Group(4, ((1, 2, 3, 0), (0, 3, 2, 1)))
>>> PAIRS = Group(4, ((1, 0, 2, 3), (0, 1, 3, 2)))
>>> FIVE = Group.even(5)
>>> [prime_factors(360), part_at(2, -24), part_at(5, 6), common_divisor((12, -18)), common_multiple((4, 6)), common_divisor(()), lowest(6, -4)]
[{2: 3, 3: 2, 5: 1}, 8, 1, 6, 12, 0, (-3, 2)]
>>> [is_prime(97), is_prime(101), is_ratio((2, 4)), Refused(("roots", 2)).reason, InvalidNumber(None).given]
[True, False, False, ('roots', 2), None]
>>> [elementary_divisors(((2, 0), (0, 3))), elementary_divisors(((2, 4), (4, 8))), elementary_divisors(((0, 0),)), determinant(((1, 2), (3, 4)))]
[(1, 6), (2,), (), -2]
>>> [rank(((1, 2), (2, 4))), kernel(((1, 2, 3), (4, 5, 6))), kernel(((1, 0), (0, 1)))]
[1, ((1, -2, 1),), ()]
>>> determinant(((1, 2),))
raises InvalidOperation
>>> [product_of((1, 0, 2), (0, 2, 1)), product_of((0, 2, 1), (1, 0, 2)), undone((1, 2, 0)), power_of((1, 2, 0), -4), power_of((1, 2, 0, 4, 3), 10 ** 30)]
[(1, 2, 0), (2, 0, 1), (2, 0, 1), (2, 0, 1), (1, 2, 0, 3, 4)]
>>> ONE = (1, 2, 0, 4, 3)
>>> [order_of(ONE), cycles(ONE), cycles((0, 2, 1)), sign_of(ONE), sign_of((1, 2, 0)), still_places((0, 2, 1))]
[6, ((0, 1, 2), (3, 4)), ((0,), (1, 2)), -1, 1, (0,)]
>>> [move_of_cycles(5, ((4, 3), (1, 2, 0))) == ONE, move_of_cycles(3, ()), move_of_cycles(3, ((1,),)), turned_move((1, 0, 2), (1, 2, 0))]
[True, (0, 1, 2), (0, 1, 2), (0, 2, 1)]
>>> [is_turning_move((1, 0, 2), (0, 2, 1), (1, 2, 0)), is_turning_move((1, 0, 2), (0, 2, 1), (0, 1, 2)), turning_move((1, 0, 2), (1, 2, 0))]
[True, False, None]
>>> product_of((1, 0), (0, 1, 2))
raises InvalidOperation
>>> [THREE.order, THREE.moves[:3], THREE.of_word((0, 1)), THREE.of_word((1, 0)), THREE.of_word(()), THREE.is_commutative, str(THREE)]
[6, ((0, 1, 2), (0, 2, 1), (1, 0, 2)), (0, 2, 1), (2, 1, 0), (0, 1, 2), False, 'group of 6 moves on 3 places']
>>> [THREE.order_counts(), FIVE.order_counts()]
[{1: 1, 2: 3, 3: 2}, {1: 1, 2: 15, 3: 20, 5: 24}]
>>> [Group.every(3) == THREE, Group.mirrors(4) == SQUARE, len(Group.mirrors(5)), Group.even(4).makers, (1, 0, 2) in THREE]
[True, True, 10, ((1, 2, 0, 3), (1, 3, 2, 0)), True]
>>> SIX = beside(Group.turning(3), Group.turning(2))
>>> [SIX.places, SIX.makers, SIX.order_counts(), SIX.of_word(SIX.word((2, 0, 1, 4, 3))), are_same(SIX, Group.turning(6)), is_same_paper(SIX, Group.turning(6), ("makers", ((2, 3, 4, 5, 0, 1), (3, 4, 5, 0, 1, 2))))]
[5, ((1, 2, 0, 3, 4), (0, 1, 2, 4, 3)), {1: 1, 2: 1, 3: 2, 6: 2}, (2, 0, 1, 4, 3), True, True]
>>> [are_same(PAIRS, Group.turning(4)), same_paper(PAIRS, Group.turning(4)), is_same_paper(THREE, THREE, ("makers", ((1, 0, 2), (1, 0, 2))))]
[False, ('none',), False]
>>> QUATER = Group(8, ((1, 2, 3, 0, 5, 6, 7, 4), (4, 7, 6, 5, 2, 1, 0, 3)))
>>> [QUATER.order_counts(), are_same(beside(Group.turning(4), Group.turning(4)), beside(Group.turning(2), QUATER))]
[{1: 1, 2: 1, 4: 6}, False]
>>> Group(10, ((1, 2, 3, 4, 5, 6, 7, 8, 9, 0), (1, 0, 2, 3, 4, 5, 6, 7, 8, 9)))
raises TooMany(120)
>>> [len(subgroups(group)) for group in (THREE, SQUARE, PAIRS, FIVE)], class_sizes(THREE), classes(THREE)[:2]
([6, 10, 5, 59], ((1, 1), (2, 3), (3, 1), (6, 1)), (((0, 1, 2),), ((0, 1, 2), (0, 2, 1))))
>>> class_sizes(FIVE), [len(keeper(SQUARE, first)) for first in classes(SQUARE)], lies_table(THREE)
(((1, 1), (2, 15), (3, 10), (4, 5), (5, 6), (6, 10), (10, 6), (12, 5), (60, 1)), [8, 4, 4, 8, 8, 8, 8, 8], ((1, 3, 1, 1), (0, 1, 0, 1), (0, 0, 1, 1), (0, 0, 0, 1)))
>>> FLIP = made_by(THREE, ((0, 2, 1),))
>>> [FLIP, class_of(THREE, FLIP), turned(THREE, FLIP, (1, 2, 0)), is_kept(THREE, FLIP), small_group(THREE, THREE.moves).makers]
[((0, 1, 2), (0, 2, 1)), 1, ((0, 1, 2), (2, 1, 0)), False, ((0, 2, 1), (1, 0, 2))]
>>> cosets(THREE, FLIP), [len(one) for one in maximal(SQUARE, SQUARE.moves)], len(list(each_flag(THREE)))
((((0, 1, 2), (0, 2, 1)), ((1, 0, 2), (1, 2, 0)), ((2, 0, 1), (2, 1, 0))), [4, 4, 4], 4)
>>> is_subgroup(THREE, ((0, 2, 1), (0, 1, 2)))
False
>>> class_of(THREE, ((0, 2, 1),))
raises InvalidSubgroup
>>> WHOLE, EVEN = THREE.moves, FIVE.moves
>>> [len(commutators(THREE, WHOLE)), [len(level) for level in levels(THREE, WHOLE)], len(last_step(FIVE, EVEN)), is_perfect(FIVE, EVEN), does_come_down(THREE, WHOLE)]
[3, [6, 3, 1], 60, True, True]
>>> [perfect_classes(FIVE), step_classes(FIVE), perfect_classes(SQUARE), len(commutators(SQUARE, SQUARE.moves))]
[(0, 8), (0, 0, 0, 0, 0, 0, 0, 0, 8), (0,), 2]
>>> [len(core_at(THREE, WHOLE, 2)), len(core_at(THREE, WHOLE, 3)), firm_classes(THREE, 2), firm_classes(THREE, 3), core_classes(THREE, 3), is_firm(THREE, WHOLE, 5)]
[3, 6, (0, 2), (0, 1, 3), (0, 1, 0, 3), True]
>>> [is_down_paper(THREE, WHOLE, ("chain", (WHOLE, ((0, 1, 2),)))), down_paper(FIVE, EVEN) == ("perfect", EVEN), [len(one) for one in down_paper(THREE, WHOLE)[1]]]
[False, True, [6, 3, 1]]
>>> list(each_level(THREE))
[(0, 1), (1, 2), (2, 2), (3, 3)]
>>> is_firm(THREE, WHOLE, 4)
raises InvalidNumber(4)
>>> PLACES, CORNERS = MovedSet.places_of(THREE), MovedSet.places_of(PAIRS)
>>> [PLACES.kinds, PLACES.marks, (PLACES * PLACES).kinds, (PLACES * PLACES).marks, (PLACES + PLACES).kinds, str(PLACES + PLACES)]
[(0, 1, 0, 0), (3, 1, 0, 0), (1, 1, 0, 0), (9, 1, 0, 0), (0, 2, 0, 0), 'set of 6 points in 2 parts']
>>> [CORNERS.kinds, CORNERS.marks, CORNERS.parts(), CORNERS.stabilizer(0), CORNERS.led((1, 0, 3, 2), 2), CORNERS.still(CORNERS.stabilizer(0))]
[(0, 1, 1, 0, 0), (4, 2, 2, 0, 0), ((0, 1), (2, 3)), ((0, 1, 2, 3), (0, 1, 3, 2)), 3, (0, 1)]
>>> TURNS = MovedSet.of_cosets(THREE, ((0, 1, 2), (1, 2, 0), (2, 0, 1)))
>>> [TURNS.actions, TURNS.kinds, TURNS.marks, MovedSet.of_kinds(THREE, (0, 1, 0, 1)).actions, len(MovedSet.of_kinds(THREE, (1, 0, 0, 0)))]
[((1, 0), (0, 1)), (0, 0, 1, 0), (2, 0, 2, 0), ((1, 0, 2, 3), (1, 2, 0, 3)), 6]
>>> TWICE = MovedSet.of_kinds(PAIRS, (0, 2, 0, 0, 0))
>>> [is_match_paper(CORNERS, TWICE, ("class", 2)), is_match_paper(CORNERS, TWICE, ("class", 3)), is_match_paper(CORNERS, CORNERS, ("map", (1, 0, 2, 3)))]
[True, False, True]
>>> MovedSet(THREE, 2, ((1, 0), (1, 0)))
raises InvalidSet
>>> [mark_table(THREE), keeper_indices(THREE), coset_row(THREE, 1), marks_of(THREE, (0, 0, -1, 2))]
[((6, 3, 2, 1), (0, 1, 0, 1), (0, 0, 2, 1), (0, 0, 0, 1)), (6, 1, 2, 1), (3, 1, 0, 0), (0, 2, 0, 2)]
>>> [kinds_of(THREE, (0, 2, 0, 2)), kinds_of(THREE, (1, 1, 1, 0)), kinds_of(PAIRS, (6, 2, 2, 2, 2)), part_sum(THREE, (6, 0, 0, 0)), part_sum(THREE, (1, 0, 0, 0))]
[(0, 0, -1, 2), None, (1, 0, 0, 0, 2), (1, 1), (1, 6)]
>>> [[mark_by(THREE, 1, 1, road=road) for road in ROADS], keeper_indices(PAIRS), [mark_by(THREE, 2, other) for other in range(4)]]
[[1, 1, 1], (4, 2, 2, 2, 1), [0, 0, 2, 1]]
>>> UNIT, SWAP = ((0, 1, 2),), ((0, 1, 2), (0, 2, 1))
>>> [still_cosets(THREE, SWAP, SWAP), still_cosets(THREE, UNIT, SWAP), still_cosets(THREE, SWAP, UNIT)]
[((0, 1, 2),), ((0, 1, 2), (1, 0, 2), (2, 0, 1)), ()]
>>> mark_by(THREE, 0, 1, road="kinds")
raises UnknownName("kinds")
>>> [row_sum(THREE, (1, 1, 1, 0), index) for index in range(4)], is_mark_row(THREE, (1, 1, 1, 0)), first_fault(THREE, (1, 1, 1, 0))
([(6, 6), (1, 1), (1, 2), (0, 1)], False, 2)
>>> [row_paper(THREE, (0, 2, 0, 2)), row_paper(THREE, (1, 1, 1, 0)), is_row_paper(THREE, (1, 0, 0, 1), ("sum", 0, 1, 6)), is_row_paper(THREE, (1, 0, 0, 1), ("sum", 2, 1, 2))]
[('sets', (0, 0, 0, 2), (0, 0, 1, 0)), ('sum', 2, 1, 2), True, True]
>>> [rest_of_row(THREE, (7, 5, 1, 0)), rest_of_row(THREE, (0, 2, 0, 2)), share(THREE), share(PAIRS), is_rest(THREE, (5, 0, 1, 0)), len(list(each_rest(THREE)))]
[(4, 0, 1, 0), (0, 0, 0, 0), 12, 32, True, 12]
>>> [least_multiple(THREE, row) for row in ((0, 0, 0, 1), (1, 0, 0, 0), (0, 0, 0, 0), (2, 0, 0, 0), (1, 1, 1, 0))]
[2, 6, 1, 3, 2]
>>> [len(part.kinds) for part in built_pair(THREE, (0, 2, 0, 2))], [part.size for part in built_pair(THREE, (0, 2, 0, 2))]
([4, 4], [2, 2])
>>> built_pair(THREE, (1, 0, 0, 0))
raises InvalidOperation
>>> FLIP = ((0, 1, 2), (0, 2, 1))
>>> [double_cosets(THREE, FLIP, FLIP), list(each_double(THREE, FLIP, FLIP)), double_cosets(THREE, FLIP, THREE.moves)]
[((0, 1, 2), (1, 0, 2)), [((0, 1, 2), 2, 1), ((1, 0, 2), 4, 0)], ((0, 1, 2),)]
>>> [pair_kinds(THREE, 1, 1), pair_kinds(THREE, 2, 2), pair_kinds(THREE, 1, 2), product_kinds(THREE, (0, 1, 0, -1), (0, 1, 0, 0))]
[(1, 1, 0, 0), (0, 0, 2, 0), (1, 0, 0, 0), (1, 0, 0, 0)]
>>> [power_kinds(THREE, (0, 1, 0, 0), 3), power_kinds(THREE, (0, 1, 0, 0), 0), marks_equation(THREE, (0, 1, 0, 0))]
[(4, 1, 0, 0), (0, 0, 0, 1), (0, 1, 3)]
>>> row_times(THREE, (3, 1, 0, 0), (2, 0, 2, 0)), row_plus(THREE, (3, 1, 0, 0), (2, 0, 2, 0))
((6, 0, 0, 0), (5, 1, 2, 0))
>>> power_kinds(THREE, (0, 1, 0, 0), 13)
raises InvalidNumber(13)
>>> FLIPS, CROSS = Group(3, ((0, 2, 1),)), Group(4, ((0, 3, 2, 1), (2, 1, 0, 3)))
>>> [class_indices(THREE, FLIPS), class_indices(SQUARE, CROSS), row_down(THREE, FLIPS, (3, 1, 0, 0)), row_up(THREE, FLIPS, (1, 1)), row_up(THREE, FLIPS, (2, 0))]
[(0, 1), (0, 1, 1, 3, 4), (3, 1), (3, 1, 0, 0), (6, 0, 0, 0)]
>>> [kinds_down(THREE, FLIPS, (0, 1, 0, 0)), kinds_down(THREE, FLIPS, (0, 0, 1, 0)), kinds_up(THREE, FLIPS, (0, 1))]
[(1, 1), (1, 0), (0, 1, 0, 0)]
>>> from movemarks.point.sets import MovedSet
>>> led = set_up(MovedSet.of_kinds(FLIPS, (0, 1)), THREE)
>>> [led.actions, led == MovedSet.places_of(THREE), set_down(led, FLIPS).actions]
[((1, 0, 2), (1, 2, 0)), True, ((0, 2, 1),)]
>>> [map_count(THREE, (0, 1, 0, 0), (3, 1, 0, 0)), map_count(THREE, (1, 0, 0, 0), (3, 1, 0, 0))]
[1, 3]
>>> class_indices(FLIPS, THREE)
raises InvalidOperation
>>> from movemarks.point.sets import MovedSet
>>> SWAP = Group(3, ((1, 0, 2),))
>>> [row_up_power(THREE, SWAP, (2, 0)), row_up_power(THREE, SWAP, (3, 1)), row_up_power(THREE, SWAP, (-1, 1))]
[(8, 0, 2, 0), (27, 3, 3, 1), (-1, -1, -1, 1)]
>>> [maps_row(THREE, (3, 1, 0, 0), (0, 1, 0, 0)), lots_all_row(THREE, (0, 1, 0, 0)), [lots_row(THREE, (0, 1, 0, 0), many) for many in (0, 2, 4)]]
[(27, 3, 3, 1), (8, 4, 2, 2), [(1, 1, 1, 1), (3, 1, 0, 0), (0, 0, 0, 0)]]
>>> NATURAL = MovedSet.places_of(THREE)
>>> [part_sizes(THREE, (0, 1, 0, 0), 1), maps_set(NATURAL, NATURAL).marks, list(each_lot(NATURAL, 2)), lots_set(NATURAL, 2).kinds]
[{1: 1, 2: 1}, (27, 3, 3, 1), [(0, 1), (0, 2), (1, 2)], (0, 1, 0, 0)]
>>> POWER = up_power_set(MovedSet.of_cosets(SWAP, SWAP.moves[:1]), THREE)
>>> [POWER.size, POWER.marks, POWER.kinds]
[8, (8, 0, 2, 0), (1, 0, 1, 0)]
>>> lots_row(THREE, (0, -1, 0, 0), 1)
raises InvalidKinds
>>> TWICE, TURNS = ((0, 1, 2, 3), (2, 3, 0, 1)), ((0, 1, 2), (1, 2, 0), (2, 0, 1))
>>> [quotient_group(SQUARE, TWICE).makers, quotient_group(THREE, TURNS).order, image_of(THREE, TURNS, (1, 0, 2))]
[((3, 2, 1, 0), (1, 0, 3, 2)), 2, (1, 0)]
>>> [quotient_classes(SQUARE, TWICE), image_classes(SQUARE, TWICE), quotient_classes(THREE, TURNS), behind(THREE, TURNS, ((0, 1),)) == TURNS]
[(3, 4, 5, 6, 7), (0, 1, 2, 0, 1, 2, 3, 4), (2, 3), True]
>>> [row_left(SQUARE, TWICE, (4, 2, 0, 0, 0, 0, 0, 0)), row_left(THREE, TURNS, (8, 0, 2, 0)), row_lifted(THREE, TURNS, (2, 0)), kinds_lifted(THREE, TURNS, (1, 3))]
[(0, 0, 0, 0, 0), (2, 0), (2, 0, 2, 0), (0, 0, 1, 3)]
>>> row_lifted(SQUARE, TWICE, (4, 0, 0, 0, 0)), kinds_left(THREE, TURNS, (5, 1, 2, 7))
((4, 0, 0, 4, 0, 0, 0, 0), (2, 7))
>>> quotient_group(THREE, ((0, 1, 2), (0, 2, 1)))
raises InvalidOperation
>>> quotient_group(FIVE, ((0, 1, 2, 3, 4),))
raises TooMany(24)
>>> [square_rows(THREE), square_rows(FIVE)[1], square_kinds(FIVE)[1], len(list(each_square(FIVE)))]
[((1, 1, 1, 1),), (0, 0, 0, 0, 0, 0, 0, 0, 1), (-1, 2, 1, 0, 0, -1, -1, -1, 1), 4]
>>> [is_own_square(THREE, (1, 1, 0, 0)), is_square_paper(THREE, (1, 1, 0, 0), ("steps", 1, 3)), square_paper(FIVE, square_rows(FIVE)[1])]
[False, True, ('sum', (8,))]
>>> HALF = ((1, 1), (1, 1), (0, 1), (0, 1))
>>> [square_rows_at(THREE, 2), square_rows_at(THREE, 3), is_row_at(THREE, 2, HALF), is_row_at(THREE, 3, HALF)]
[((1, 1, 0, 0), (0, 0, 1, 1)), ((1, 0, 1, 0), (0, 1, 0, 0), (0, 0, 0, 1)), True, False]
>>> [part_kinds(THREE, 3), part_bottom(THREE, 3), part_bottom(THREE, 0), kinds_of_ratios(THREE, ((1, 2),) * 4)]
[((1, 2), (-1, 1), (-1, 2), (1, 1)), 2, 6, ((0, 1), (0, 1), (0, 1), (1, 2))]
>>> square_paper(THREE, (2, 0, 0, 0))
raises InvalidOperation
>>> [sign_basis(THREE), sign_count(THREE), sign_count(SQUARE), sign_count(PAIRS), sign_count(FIVE), sign_count(Group.turning(9))]
[((-1, 1, -1, 1), (1, -1, 1, 1), (1, 1, 1, -1)), 8, 32, 16, 32, 2]
>>> [sign_paper(THREE, (1, 1, 1, -1)), is_sign_paper(THREE, (1, 1, -1, 1), ("moves", 0, (0, 2, 1), (1, 0, 2))), is_sign_paper(THREE, (1, 1, -1, 1), ("moves", 0, (0, 1, 2), (1, 0, 2)))]
[('kinds', (-1, 2, 1, -1)), True, False]
>>> [sign_map(THREE, (1, 1, -1, 1), 0), sign_map(THREE, (1, -1, 1, -1), 0), list(each_sign_row(THREE))[:3]]
[(1, 1, 1, -1, -1, 1), (1, -1, -1, 1, 1, -1), [(-1, -1, -1, -1), (-1, -1, -1, 1), (-1, 1, -1, -1)]]
>>> [part_row(THREE, (0, 1, 0, 0)), part_row(THREE, (1, -1, 0, 2)), half_rows(THREE), half_rows(FIVE), [index for index, row in half_rows(PAIRS)]]
[(-1, 1, -1, -1), (-1, -1, -1, 1), ((2, (1, -1, 1, -1)),), (), [1, 2, 3]]
>>> EVEN = Group.even(4)
>>> [sign_basis(EVEN), is_sign_row(EVEN, (1, 1, 1, 1, -1)), sign_map(EVEN, (1, 1, 1, 1, -1), 0) == (1,) * 12, is_sign_row(EVEN, 1)]
[((-1, -1, -1, 1, 1), (1, 1, 1, -1, -1)), False, True, False]
>>> [is_sign_paper(EVEN, (1, 1, 1, 1, -1), ("moves", 3, (0, 2, 3, 1), (0, 2, 3, 1))), sign_basis(Group.turning(4))]
[True, ((-1, -1, 1), (1, 1, -1))]
>>> [single_classes(THREE), single_classes(PAIRS), single_classes(SQUARE), equal_lattice(THREE), equal_lattice(PAIRS), len(equal_lattice(SQUARE))]
[(0, 1, 2), (0, 1, 2, 3), (0, 1, 2, 3, 6), ((1, -2, -1, 2),), ((1, -1, -1, -1, 2),), 3]
>>> [apart(PAIRS, (1, -1, -1, -1, 2)), single_marks(THREE, (1, -2, -1, 2)), single_marks(THREE, (0, 0, 0, 1)), is_equal_kinds(THREE, (2, -4, -2, 4))]
[((1, 0, 0, 0, 2), (0, 1, 1, 1, 0)), (0, 0, 0), (1, 1, 1), True]
>>> from movemarks.point.sets import MovedSet
>>> ONE, OTHER = MovedSet.of_kinds(PAIRS, (1, 0, 0, 0, 2)), MovedSet.of_kinds(PAIRS, (0, 1, 1, 1, 0))
>>> [are_equal_counts(ONE, OTHER), ONE == OTHER, counts_of(ONE) == counts_of(OTHER), equal_paper(ONE, OTHER)[0], is_equal_paper(ONE, OTHER, ("move", (1, 0, 2, 3)))]
[True, False, True, 'table', False]
>>> PLACES = MovedSet.places_of(PAIRS)
>>> [counts_of(PLACES), len(pair_parts(PLACES, PLACES)), does_go_along(PLACES, PLACES, ((0, 1, 0, 0), (1, 0, 0, 0), (0, 0, 2, 0), (0, 0, 0, 2)))]
[(4, 2, 2, 0), 6, True]
>>> are_equal_counts(PLACES, MovedSet.places_of(SQUARE))
raises InvalidOperation
>>> UNIT = THREE.moves[:1]
>>> [moebius(THREE, UNIT, THREE.moves), moebius_row(THREE), moebius_row(SQUARE), chain_counts(SQUARE, SQUARE.moves[:1], SQUARE.moves)]
[3, (3, -1, -1, 1), (0, 0, 0, 2, -1, -1, -1, 1), {1: 1, 2: 8, 3: 7}]
>>> [[makings(THREE, many) for many in (0, 1, 2, 3)], making_powers(THREE), making_powers(SQUARE), makings(FIVE, 2), least_makers(FIVE)]
[[0, 0, 18, 168], ((1, 3), (2, -3), (3, -1), (6, 1)), ((2, 2), (4, -3), (8, 1)), 2280, 2]
>>> [len(list(each_making(PAIRS, 2))), len(common_part(SQUARE)), common_part(PAIRS) == PAIRS.moves[:1], is_meet(THREE, UNIT)]
[6, 2, True, True]
>>> from movemarks.move.groups import beside
>>> WIDE = beside(Group.even(4), Group.turning(2))
>>> [least_makers(WIDE), makings(WIDE, 2), [chain_sum(FIVE, prime) for prime in (2, 3, 5, 7)], chain_sum(SQUARE, 2)]
[2, 288, [5, 10, 6, 0], 1]
>>> TWENTY = Group(5, ((1, 2, 3, 4, 0), (0, 2, 4, 1, 3)))
>>> [TWENTY.order, moebius_row(TWENTY), is_meet(TWENTY, TWENTY.moves[:1]), least_makers(TWENTY)]
[20, (0, 1, -1, 0, -1, 1), True, 2]
>>> moebius(THREE, THREE.moves, UNIT)
raises InvalidOperation
>>> [closed_lot(THREE, (1,)), closed_lot(SQUARE, (5,)), closed_lot(FIVE, (7,)), is_closed_lot(THREE, (0, 2)), is_closed_lot(THREE, (2,)), single_lot(SQUARE)]
[(0, 1), (0, 2, 3, 5), (0, 1, 2, 3, 7), True, False, (0, 1, 2, 3, 6)]
>>> [prime_lot(FIVE, 2), local_factor(FIVE, (3,)), local_factor(FIVE, (2,)), local_factor(SQUARE, (5,)), local_factor(THREE, (0,))]
[(0, 1, 3), (15, (-1, 0, 0, 5, 0, 0, 0, 0, 0)), (20, (-3, 0, 10, 0, 0, 0, 0, 0, 0)), (2, (0, 0, 0, 0, 0, 1, 0, 0)), (6, (1, 0, 0, 0))]
>>> [single_factor(THREE, (1, 2)), single_factor(THREE, (1,)), single_factor(FIVE, single_lot(FIVE))[1], is_single_factor(SQUARE, (1, 2), ("class", 6))]
[('factor', 2, (-1, 2, 1, 0)), ('class', 2), 2, True]
>>> [lot_table(THREE, (1, 2)), lot_divisors(THREE, (1, 2)), is_made_of(THREE, (1,), (5, -2, 0, 0)), is_made_of(THREE, (1,), (5, -2, 1, 0))]
[((6, 0, 0), (3, 1, 0), (2, 0, 2)), (1, 2, 6), True, False]
>>> closed_lot(THREE, (2, 1))
raises InvalidOperation
>>> PLACES = (0, 1, 0, 0)
>>> [part_count(THREE, (3, 1, 0, 0)), patterns(THREE, PLACES, 2), pattern_row(THREE, PLACES, 2), pattern_kinds(THREE, PLACES, 2), pattern_powers(THREE, PLACES)]
[(1, 1), 4, (8, 4, 2, 2), (0, 2, 0, 2), ((1, 2), (2, 3), (3, 1))]
>>> [share_patterns(THREE, PLACES, (2, 1)), share_patterns(THREE, PLACES, (1, 1, 1)), patterns(THREE, PLACES, 3), patterns(THREE, (0, 0, 0, 0), 0)]
[1, 1, 10, 1]
>>> [patterns(PAIRS, (0, 1, 1, 1, 0), 7) == patterns(PAIRS, (1, 0, 0, 0, 2), 7), roots_count(THREE, 2), roots_count(FIVE, 6), subgroup_counts(THREE), sylow_counts(FIVE)]
[True, 4, 36, {1: 1, 2: 3, 3: 1, 6: 1}, {2: 5, 3: 10, 5: 6}]
>>> share_patterns(THREE, PLACES, (2, 2))
raises InvalidOperation
>>> desk = Desk(THREE, (0, 1, 0, 0))
>>> [desk.promise(("set",)), desk.promise(("mark", 0, 3, 9)), desk.do((("times", (0, 1, 0, 0)),)), desk.kinds, desk.marks, str(desk)]
[True, True, 3, (1, 1, 0, 0), (9, 1, 0, 0), 'desk of kinds 1 1 0 0, 2 promises']
>>> [desk.would((("many", -1),)), paper_against(THREE, (0, 0, -2, 0), ("set",)), does_hold(THREE, (1, -2, -1, 2), ("squares",)), desk.undo(2), len(desk)]
[(('set',), ('mark', 0, 3, 9)), ('kind', 2, -2), False, 1, 1]
>>> desk.do((("less", (0, 2, 0, 0)),))
raises Refused(('broken', ('set',), ('kind', 1, -1)))
>>> [is_paper_against(THREE, (1, 0, 0, 0), ("signs",), ("mark", 3, 0)), is_promise(THREE, ("mark", 4, 0, 1)), desk.do((("plus", (0, 0, 0, 1)), ("without", 1))), desk.kinds]
[True, False, 2, (0, 0, 0, 1)]
>>> [write_move((1, 2, 0, 4, 3)), write_move((0, 1)), read_move("(4 3)(2 0 1)", 6), write_group(SQUARE), write_group(Group(2, ()))]
['(0 1 2)(3 4)', '()', (1, 2, 0, 4, 3, 5), '4: (0 1 2 3) (1 3)', '2:']
>>> [read_group("3: (0 1) (0 1 2)") == THREE, read_group("3: (1 2) (0 1)") == THREE, write_row((6, 2, 0, -1)), read_row("0,-12"), write_kinds((2, 0, -1, 3)), write_kinds((-1, 0))]
[True, True, '6,2,0,-1', (0, -12), '2[0] - [2] + 3[3]', '-[0]']
>>> [read_kinds("[1] + 2[0] - 3[1]", 2), read_kinds("0", 3), write_kinds((0, 0)), list(table_lines(THREE))]
[(2, -2), (0, 0, 0), '0', ['1: 6 3 2 1', '2: 0 1 0 1', '3: 0 0 2 1', '6: 0 0 0 1']]
>>> read_move("(0 1)(2 1)", 4)
raises InvalidMove
>>> read_row("1,,2")
raises ParseError(2)
>>> read_kinds("2[0] +[1]", 2)
raises ParseError(6)
"""


def names():
    """All names that the examples use."""
    found = {}
    for module in (errors, integers, tables, moves, groups, subgroups, steps, sets, marks, rows, sums, changes, powers,
                   quotients, squares, signs, singles, moebius, factors, counts, promises, desks, texts):
        found.update(module.__dict__)
    return found


class Examples(unittest.TestCase):

    def test_examples(self):
        known = names()
        lines = EXAMPLES.strip().splitlines()
        judged = 0
        for line, told in zip(lines, lines[1:] + [">>>"]):
            if not line.startswith(">>> "):
                continue
            with self.subTest(line=line):
                if told.startswith(">>>"):
                    exec(line[4:], known)
                elif told.startswith("raises "):
                    self.assert_raises_as(told[7:], line[4:], known)
                else:
                    self.assertEqual(repr(eval(line[4:], known)), told)
                judged += 1
        self.assertEqual(judged, sum(line.startswith(">>> ") for line in lines))

    def assert_raises_as(self, told, text, known):
        """Asks for the error that is told, with what it keeps, such as `TooMany(120)`."""
        name, _, kept = told.partition("(")
        with self.assertRaises(known[name]) as caught:
            eval(text, known)
        if kept:
            self.assertIn(eval(kept[:-1], known), caught.exception.__dict__.values())


if __name__ == "__main__":
    unittest.main()
