"""[0.8] and [2.1] to [2.5]: moves."""

import unittest
from itertools import permutations
from random import Random

from helpers import Case, NO_INTEGERS, WRONG, back, times
from movemarks.errors import InvalidMove, InvalidOperation
from movemarks.move import moves
from movemarks.move.moves import (cycles, is_move, is_turning_move, move_of_cycles, order_of, power_of, product_of,
                                  sign_of, still_places, turned_move, turning_move, undone, unit_of)

NO_MOVES = WRONG + ((), (1,), (0, 0), (0, 2), (1, 2, 3), (0, 1, 1), (-1, 0), (0, 1, -1), [1, 0], tuple(range(25)),
                    (True, 0), (1, False), (0, 1, True), "01", (0, "1"), ((0, 1),), 3)
NO_PLACES = WRONG + (0, 25, 100, "3", (3,))
ALL_OF_FOUR = tuple(permutations(range(4)))


def some_moves():
    """Moves of all numbers of places, the same ones in each run."""
    chance = Random(7)
    found = [tuple(range(places)) for places in (1, 2, 24)] + list(permutations(range(3)))
    for places in range(1, 25):
        for _ in range(4):
            found.append(tuple(chance.sample(range(places), places)))
    return found


class Judged(Case):

    def test_constants(self):
        self.assertEqual((moves.MAX_PLACES, moves.MAX_POWER), (24, 10 ** 30))

    def test_is_move(self):
        for move in some_moves():
            self.assert_true(is_move(len(move), move))
            self.assert_false(is_move(len(move) % 24 + 1, move))
            self.assert_false(is_move(len(move), list(move)))
        for value in NO_MOVES:
            for places in (1, 2, 3, 24):
                self.assert_false(is_move(places, value))
        self.assert_false(is_move(1, (False,)))
        self.assert_false(is_move(2, (True, False)))

    def test_wrong_places(self):
        for places in NO_PLACES:
            self.assert_number(places, is_move, places, (0,))
            self.assert_number(places, is_move, places, None)
            self.assert_number(places, unit_of, places)
            self.assert_number(places, move_of_cycles, places, ())
            self.assert_number(places, move_of_cycles, places, None)

    def test_unit(self):
        self.assertEqual([unit_of(1), unit_of(3), unit_of(24)], [(0,), (0, 1, 2), tuple(range(24))])


class Products(Case):

    def test_products(self):
        for one in permutations(range(3)):
            for other in permutations(range(3)):
                self.assertEqual(product_of(one, other), tuple(one[other[place]] for place in range(3)))
        self.assertEqual([product_of((1, 0, 2), (0, 2, 1)), product_of((0, 2, 1), (1, 0, 2))], [(1, 2, 0), (2, 0, 1)])

    def test_undone(self):
        for move in some_moves():
            self.assertEqual(undone(move), back(move))
            self.assertEqual(product_of(move, undone(move)), unit_of(len(move)))

    def test_undone_product(self):
        for one in ALL_OF_FOUR:
            for other in ALL_OF_FOUR[::5]:
                self.assertEqual(undone(product_of(one, other)), product_of(undone(other), undone(one)))

    def test_powers(self):
        for move in some_moves():
            power = unit_of(len(move))
            for number in range(8):
                self.assertEqual(power_of(move, number), power)
                self.assertEqual(power_of(move, -number), undone(power))
                power = times(power, move)
        self.assertEqual([power_of((1, 2, 0), -4), power_of((1, 2, 0, 4, 3), 10 ** 30)], [(2, 0, 1), (1, 2, 0, 3, 4)])
        self.assertEqual(power_of((1, 2, 0), -10 ** 30), (2, 0, 1))
        self.assertEqual(power_of((1, 2, 3, 4, 5, 6, 0), 10 ** 30), power_of((1, 2, 3, 4, 5, 6, 0), 10 ** 30 % 7))

    def test_wrong_moves(self):
        for wrong in NO_MOVES:
            for call in (undone, order_of, sign_of, cycles, still_places):
                self.assert_raises(InvalidMove, call, wrong)
            self.assert_raises(InvalidMove, power_of, wrong, 2)
            self.assert_raises(InvalidMove, power_of, wrong, None)
            for call in (product_of, turned_move, turning_move):
                self.assert_raises(InvalidMove, call, wrong, (0, 1))
                self.assert_raises(InvalidMove, call, (0, 1), wrong)
                self.assert_raises(InvalidMove, call, wrong, wrong)
            self.assert_raises(InvalidMove, is_turning_move, wrong, (0, 1), (0, 1))
            self.assert_raises(InvalidMove, is_turning_move, (0, 1), wrong, None)

    def test_wrong_exponents(self):
        for number in NO_INTEGERS + (10 ** 30 + 1, -10 ** 30 - 1):
            self.assert_number(number, power_of, (1, 0), number)

    def test_unlike_places(self):
        for one, other in (((1, 0), (0, 1, 2)), ((0,), (0, 1)), (tuple(range(24)), tuple(range(23)))):
            for call in (product_of, turned_move, turning_move):
                self.assert_raises(InvalidOperation, call, one, other)
                self.assert_raises(InvalidOperation, call, other, one)
            for value in (one, other, None):
                self.assert_raises(InvalidOperation, is_turning_move, one, other, value)


class Rings(Case):

    def test_cycles(self):
        for move in some_moves():
            found = cycles(move)
            self.assertEqual(sorted(place for ring in found for place in ring), list(range(len(move))))
            self.assertEqual([ring[0] for ring in found], sorted(min(ring) for ring in found))
            for ring in found:
                self.assertEqual([move[place] for place in ring], list(ring[1:] + ring[:1]))
            self.assertEqual(move_of_cycles(len(move), found), move)
        self.assertEqual([cycles((1, 2, 0, 4, 3)), cycles((0, 2, 1)), cycles((0,))],
                         [((0, 1, 2), (3, 4)), ((0,), (1, 2)), ((0,),)])

    def test_order(self):
        for move in some_moves():
            number, power = 1, move
            while power != unit_of(len(move)) and number < 3000:
                number, power = number + 1, times(power, move)
            self.assertEqual(order_of(move), number)
        self.assertEqual(order_of(move_of_cycles(24, ((0, 1, 2), (3, 4, 5, 6, 7), tuple(range(8, 15)), tuple(range(15, 23))))), 840)

    def test_sign(self):
        for move in some_moves():
            pairs = [(low, high) for high in range(len(move)) for low in range(high) if move[low] > move[high]]
            self.assertEqual(sign_of(move), -1 if len(pairs) % 2 else 1)
        for one in ALL_OF_FOUR:
            for other in ALL_OF_FOUR[::5]:
                self.assertEqual(sign_of(product_of(one, other)), sign_of(one) * sign_of(other))

    def test_still_places(self):
        for move in some_moves():
            self.assertEqual(still_places(move), tuple(place for place in range(len(move)) if move[place] == place))

    def test_move_of_cycles(self):
        self.assertEqual([move_of_cycles(5, ((4, 3), (1, 2, 0))), move_of_cycles(3, ()), move_of_cycles(3, ((1,),)),
                          move_of_cycles(4, ((3, 1),)), move_of_cycles(1, ((0,),))],
                         [(1, 2, 0, 4, 3), (0, 1, 2), (0, 1, 2), (0, 3, 2, 1), (0,)])

    def test_wrong_rings(self):
        for rings in WRONG + (((),), ((0, 0),), ((0, 1), (1, 2)), ((3,),), ((-1,),), ((0, 1), [2]), [(0, 1)], (0, 1),
                              ((0, True),), ((False, 1),), ((0, 1), ()), ((0, 1), (2, "a")), ((0, (1,)),), "01"):
            self.assert_raises(InvalidOperation, move_of_cycles, 3, rings)


class Turned(Case):

    def test_turned(self):
        for move in ALL_OF_FOUR:
            for by in ALL_OF_FOUR[::3]:
                turned = turned_move(move, by)
                self.assertEqual(turned, times(times(by, move), back(by)))
                rings = tuple(tuple(by[place] for place in ring) for ring in cycles(move))
                self.assertEqual(move_of_cycles(4, rings), turned)
        self.assertEqual(turned_move((1, 0, 2), (1, 2, 0)), (0, 2, 1))

    def test_turning_moves(self):
        for one in ALL_OF_FOUR:
            for other in ALL_OF_FOUR:
                right = [by for by in ALL_OF_FOUR if times(times(by, one), back(by)) == other]
                found = turning_move(one, other)
                if right:
                    self.assertIn(found, right)
                    self.assert_true(is_turning_move(one, other, found))
                else:
                    self.assertIsNone(found)
                self.assertEqual([by for by in ALL_OF_FOUR if is_turning_move(one, other, by)], right)

    def test_turning_great_moves(self):
        for move in some_moves():
            by = move[::-1]
            other = turned_move(move, by)
            self.assert_true(is_turning_move(move, other, by))
            self.assert_true(is_turning_move(move, other, turning_move(move, other)))

    def test_what_is_no_turning_move(self):
        for value in NO_MOVES + ((0, 1), (0, 1, 2, 3), [1, 2, 0], (True, 2, 0), (1, 2, False)):
            self.assert_false(is_turning_move((1, 0, 2), (0, 2, 1), value))
        self.assert_true(is_turning_move((1, 0, 2), (0, 2, 1), (1, 2, 0)))
        self.assert_false(is_turning_move((1, 0, 2), (1, 2, 0), None))
        self.assert_false(is_turning_move((0, 1), (0, 1), (False, True)))

    def test_what_is_not_true(self):
        product = product_of((1, 0, 2), (0, 2, 1))
        self.assertNotEqual(order_of((1, 0, 2)) * order_of((0, 2, 1)) % order_of(product), 0)
        self.assertEqual(order_of((1, 0, 2, 3)), order_of((1, 0, 3, 2)))
        self.assertIsNone(turning_move((1, 0, 2, 3), (1, 0, 3, 2)))
        target = (1, 2, 3, 0, 5, 4)
        self.assertEqual(sign_of(target), 1)
        self.assertFalse(any(product_of(move, move) == target for move in permutations(range(6))))


if __name__ == "__main__":
    unittest.main()
