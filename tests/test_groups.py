"""[0.8] and [3.1] to [3.4]: groups."""

import unittest
from itertools import permutations

from helpers import (ALONE, Case, FIVE, NO_GROUPS, NO_INTEGERS, PAIRS, QUATER, SQUARE, THREE, TWENTY, WRONG, back, made,
                     many_turning, times)
from movemarks.errors import InvalidGroup, InvalidMove, InvalidOperation, TooMany
from movemarks.move import groups
from movemarks.move.groups import Group, are_same, beside, is_same_paper, same_paper
from movemarks.move.moves import order_of, sign_of

SOME = (THREE, SQUARE, PAIRS, FIVE, QUATER, TWENTY, ALONE, Group(24, ()), Group.every(4), Group.even(4),
        Group.mirrors(5), Group.turning(12), many_turning(2, 2, 2), many_turning(4, 2), Group.turning(24))
NO_NUMBERS = WRONG + (0,)


def ring(places, *rings):
    move = list(range(places))
    for told in rings:
        for at, place in enumerate(told):
            move[place] = told[(at + 1) % len(told)]
    return tuple(move)


class Makes(Case):

    def test_constants(self):
        self.assertEqual((groups.MAX_ORDER, groups.MAX_SUBGROUPS, groups.MAX_CLASSES, groups.MAX_MAKERS),
                         (120, 200, 60, 6))

    def test_moves(self):
        for group in SOME:
            self.assertEqual(group.moves, made(group.places, group.makers))
            self.assertEqual(group.order, len(group.moves))
            self.assertEqual(len(group), group.order)
            self.assertEqual(list(group), list(group.moves))
            self.assertEqual(tuple(group), group.moves)

    def test_properties(self):
        for name in ("places", "makers", "order", "moves", "is_commutative"):
            self.assertIsInstance(Group.__dict__[name], property)
            with self.assertRaises(AttributeError):
                setattr(THREE, name, 1)
        self.assertEqual((SQUARE.places, SQUARE.makers), (4, ((1, 2, 3, 0), (0, 3, 2, 1))))
        twice = Group(2, ((1, 0), (0, 1), (1, 0), (0, 1), (1, 0), (1, 0)))
        self.assertEqual((len(twice.makers), twice.makers[1], twice.order), (6, (0, 1), 2))
        self.assertEqual((ALONE.moves, ALONE.makers, ALONE.order), (((0,),), (), 1))

    def test_is_commutative(self):
        for group in SOME:
            right = all(times(one, other) == times(other, one) for one in group.moves for other in group.moves)
            self.assertIs(group.is_commutative, right)

    def test_order_counts(self):
        for group in SOME:
            orders = [order_of(move) for move in group.moves]
            counts = group.order_counts()
            self.assertEqual(list(counts.items()), sorted((order, orders.count(order)) for order in set(orders)))
            counts[1] = 7
            self.assertEqual(group.order_counts()[1], 1)

    def test_text(self):
        self.assertEqual([str(THREE), str(ALONE), str(FIVE)],
                         ["group of 6 moves on 3 places", "group of 1 moves on 1 places", "group of 60 moves on 5 places"])

    def test_named_groups(self):
        for number in range(1, 25):
            self.assertEqual(Group.turning(number).makers, (tuple(range(1, number)) + (0,),))
            self.assertEqual(Group.turning(number).order, number)
        for number in range(3, 25):
            group = Group.mirrors(number)
            mirror = tuple(0 if place == 0 else number - place for place in range(number))
            self.assertEqual((group.places, group.makers), (number, (tuple(range(1, number)) + (0,), mirror)))
            self.assertEqual(group.order, 2 * number)
        for number in range(1, 6):
            every, even = Group.every(number), Group.even(number)
            self.assertEqual(every.moves, tuple(permutations(range(number))))
            self.assertEqual(even.moves, tuple(move for move in every.moves if sign_of(move) == 1))
            self.assertEqual(even.makers, tuple(ring(number, (0, 1, last)) for last in range(2, number)))
        self.assertEqual([Group.every(number).makers for number in (1, 2, 4)],
                         [((0,),), ((1, 0), (1, 0)), ((1, 2, 3, 0), (1, 0, 2, 3))])
        self.assertEqual(Group.even(4).makers, ((1, 2, 0, 3), (1, 3, 2, 0)))

    def test_wrong_named_groups(self):
        for number in NO_NUMBERS + (25,):
            self.assert_number(number, Group.turning, number)
        for number in NO_NUMBERS + (1, 2, 25):
            self.assert_number(number, Group.mirrors, number)
        for number in NO_NUMBERS + (6,):
            self.assert_number(number, Group.every, number)
            self.assert_number(number, Group.even, number)


class Refused(Case):

    def test_wrong_places(self):
        for places in NO_NUMBERS + (25,):
            for makers in ((), ((0,),), None):
                self.assert_number(places, Group, places, makers)

    def test_wrong_makers(self):
        wrong = tuple(value for value in WRONG if value != ())
        for makers in wrong + ([(1, 0)], ((1, 0), None), ((1, 0, 2),), ((1, 0), (0, 1, 2)), ((True, 0),), ((1, False),),
                               ((0, 0),), ([1, 0],), (1, 0), ((1, 0),) * 7, ((0, 1),) * 7, "10", ((0, 2),), 3):
            self.assert_raises(InvalidMove, Group, 2, makers)
        self.assertEqual(Group(2, ((1, 0),) * 6).order, 2)

    def test_too_many_moves(self):
        self.assertEqual(Group.every(5).order, 120)
        self.assert_too_many(120, Group, 10, (tuple(range(1, 10)) + (0,), ring(10, (0, 1))))
        self.assert_too_many(120, Group, 24, (tuple(range(1, 24)) + (0,), ring(24, (0, 1))))
        # 121 moves, and 128 moves with far more than 200 subgroups.
        self.assert_too_many(120, Group, 22, (ring(22, range(11)), ring(22, range(11, 22))))
        self.assert_too_many(120, many_turning, 2, 2, 2, 2, 8)

    def test_too_many_subgroups(self):
        # 374 subgroups, each one a class; 212; 2825.
        for lengths in ((2,) * 5, (3,) * 4, (2,) * 6):
            self.assert_too_many(200, many_turning, *lengths)
        # 212 subgroups in 56 classes.
        turns = [ring(9, (start, start + 1, start + 2)) for start in (0, 3, 6)]
        self.assert_too_many(200, Group, 9, (*turns, ring(9, (1, 2), (4, 5), (7, 8))))
        # 180 subgroups.
        turn = ring(12, range(3), range(3, 7), range(7, 12))
        self.assertEqual(Group(12, (turn, ring(12, (1, 2), (4, 6), (8, 11), (9, 10)))).order, 120)

    def test_too_many_classes(self):
        # 67 subgroups, 134 subgroups, each one a class.
        self.assert_too_many(60, many_turning, 2, 2, 2, 2)
        self.assert_too_many(60, many_turning, 2, 2, 2, 2, 7)
        # 54 subgroups.
        self.assertEqual(many_turning(4, 2, 2, 3).order, 48)
        # 60 classes with 101 subgroups, and 61 with 89.
        self.assertEqual(Group(12, ((2, 3, 1, 0, 7, 6, 4, 5, 10, 11, 9, 8), (1, 0, 3, 2, 6, 7, 4, 5, 9, 8, 10, 11),
                                    (2, 3, 1, 0, 10, 11, 9, 8, 4, 5, 6, 7))).order, 64)
        self.assert_too_many(60, Group, 12, ((1, 2, 3, 0, 7, 4, 5, 6, 8, 9, 11, 10), (0, 1, 2, 3, 6, 7, 4, 5, 10, 11, 8, 9),
                                             (4, 5, 6, 7, 1, 2, 3, 0, 10, 11, 9, 8)))

    def test_errors_of_later_arguments_wait(self):
        self.assert_number(0, Group, 0, ((2,),) * 9)
        self.assert_raises(InvalidMove, Group, 10, (tuple(range(1, 10)) + (0,), ring(10, (0, 1)), None))


class Words(Case):

    def test_words(self):
        for group in SOME:
            for move in group.moves:
                word = group.word(move)
                self.assertIsInstance(word, tuple)
                self.assertLessEqual(len(word), group.order - 1)
                told = tuple(range(group.places))
                for index in word:
                    self.assertIs(index.__class__, int)
                    told = times(told, group.makers[index])
                self.assertEqual(told, move)
                self.assertEqual(group.of_word(word), move)
        self.assertEqual(max(len(Group.turning(24).word(move)) for move in Group.turning(24).moves), 23)
        self.assertEqual([THREE.of_word((0, 1)), THREE.of_word((1, 0)), THREE.of_word(())],
                         [(0, 2, 1), (2, 1, 0), (0, 1, 2)])

    def test_wrong_moves(self):
        for move in WRONG + ((0, 2, 3, 1), (1, 2, 0, 3), (True, 0, 2, 3), (0, 1, 2), (1, 0)):
            self.assert_raises(InvalidMove, SQUARE.word, move)

    def test_long_words(self):
        self.assertEqual(THREE.of_word((1,) * 2000), (2, 0, 1))
        self.assertEqual(THREE.of_word((1, 1, 1) * 666), (0, 1, 2))
        self.assert_raises(InvalidOperation, THREE.of_word, (1,) * 2001)

    def test_wrong_words(self):
        wrong = tuple(value for value in WRONG if value != ())
        for word in wrong + ([0], (0, 2), (-1,), (0, True), (False,), "01", (0, "1"), 0, (0, None), ((0,),)):
            self.assert_raises(InvalidOperation, THREE.of_word, word)
        self.assert_raises(InvalidOperation, ALONE.of_word, (0,))
        self.assertEqual(ALONE.of_word(()), (0,))


class Compared(Case):

    def test_in(self):
        for group in SOME:
            for move in group.moves:
                self.assert_true(move in group)
        for value in WRONG + ((1, 0), (0, 1, 2, 3), [0, 1, 2], (True, 0, 2), (0, True, 2), (1, 0, "2"), ((1, 0, 2),), 0):
            self.assert_false(value in THREE)
            self.assert_true(value not in THREE)
        self.assert_false((0, 2, 1, 3) in SQUARE)
        self.assert_false((False,) in ALONE)

    def test_equal(self):
        self.assert_true(Group.every(3) == THREE)
        self.assert_true(Group.mirrors(4) == SQUARE)
        self.assert_false(Group.every(3) != THREE)
        for one in SOME:
            for other in SOME:
                self.assertIs(one == other, one is other)
                self.assertIs(one != other, one is not other)
        self.assert_false(Group(2, ()) == Group(3, ()))
        for value in NO_GROUPS:
            self.assert_false(THREE == value)
            self.assert_true(THREE != value)

    def test_other_operators(self):
        for call in (lambda: THREE + THREE, lambda: THREE * 2, lambda: THREE < SQUARE, lambda: THREE[0], lambda: -THREE):
            self.assertRaises(TypeError, call)


class Beside(Case):

    def test_product(self):
        six = beside(Group.turning(3), Group.turning(2))
        self.assertEqual((six.places, six.makers), (5, ((1, 2, 0, 3, 4), (0, 1, 2, 4, 3))))
        for one in (THREE, ALONE, PAIRS, Group(2, ())):
            for other in (Group.turning(2), Group.mirrors(5), ALONE):
                group = beside(one, other)
                right = [move + tuple(one.places + place for place in behind)
                         for move in one.moves for behind in other.moves]
                self.assertEqual(group.moves, tuple(sorted(right)))
                self.assertEqual(len(group.makers), len(one.makers) + len(other.makers))

    def test_wrong_groups(self):
        for value in NO_GROUPS:
            self.assert_raises(InvalidGroup, beside, value, THREE)
            self.assert_raises(InvalidGroup, beside, THREE, value)
            self.assert_raises(InvalidGroup, beside, value, value)
            self.assert_raises(InvalidGroup, beside, Group(24, ()), value)

    def test_too_many(self):
        self.assertEqual(beside(Group(12, ()), Group(12, ())).places, 24)
        self.assert_too_many(24, beside, Group(12, ()), Group(13, ()))
        many = Group(12, (tuple(range(12)),) * 4)
        self.assertEqual(len(beside(many, Group(2, ((1, 0),) * 2)).makers), 6)
        self.assert_too_many(24, beside, many, Group(13, (tuple(range(13)),) * 3))
        self.assert_too_many(6, beside, many, Group(2, ((1, 0),) * 3))
        self.assert_too_many(6, beside, Group(5, Group.every(5).makers * 2), Group(5, Group.every(5).makers * 2))
        self.assert_too_many(120, beside, Group.every(4), Group.every(3))
        self.assert_too_many(200, beside, many_turning(2, 2), many_turning(2, 2, 2))
        self.assert_too_many(60, beside, many_turning(2, 2), many_turning(2, 2))


def plain_map(one, other, images):
    """Whether a map that keeps products leads the makers to the images, told by all pairs of moves."""
    led = {tuple(range(one.places)): tuple(range(other.places))}
    for move in one.moves:
        image = tuple(range(other.places))
        for index in one.word(move):
            image = times(image, images[index])
        led[move] = image
    if sorted(led.values()) != list(other.moves) or any(led[maker] != image for maker, image in zip(one.makers, images)):
        return False
    return all(led[times(move, maker)] == times(led[move], led[maker]) for move in one.moves for maker in one.makers)


class Same(Case):

    def setUp(self):
        self.told = [
            (THREE, Group.mirrors(3), True), (THREE, Group.turning(6), False), (PAIRS, Group.turning(4), False),
            (PAIRS, Group(4, ((1, 0, 3, 2), (2, 3, 0, 1))), True), (SQUARE, QUATER, False), (FIVE, FIVE, True),
            (many_turning(2, 3), Group.turning(6), True), (many_turning(2, 2), Group.turning(4), False),
            (beside(Group.turning(4), Group.turning(4)), beside(Group.turning(2), QUATER), False),
            (Group.mirrors(6), beside(THREE, Group.turning(2)), True), (Group.mirrors(6), Group.even(4), False),
            (Group.every(4), beside(Group.even(4), Group.turning(2)), False), (ALONE, Group(7, ()), True),
            (ALONE, Group.turning(2), False), (Group.turning(15), many_turning(3, 5), True),
            (Group.every(5), beside(FIVE, Group.turning(2)), False), (Group(3, ((0, 1, 2),) * 6), ALONE, True),
            (many_turning(4, 2), many_turning(2, 4), True), (TWENTY, Group.mirrors(10), False),
        ]

    def test_are_same(self):
        for one, other, right in self.told:
            self.assertIs(are_same(one, other), right)
            self.assertIs(are_same(other, one), right)
            self.assert_true(are_same(one, one))

    def test_papers(self):
        for one, other, right in self.told:
            paper = same_paper(one, other)
            self.assertEqual(paper[0], "makers" if right else "none")
            if right:
                self.assertEqual(len(paper), 2)
                self.assertTrue(plain_map(one, other, paper[1]))
            else:
                self.assertEqual(paper, ("none",))
            self.assert_true(is_same_paper(one, other, paper))
            self.assertIs(is_same_paper(one, other, ("none",)), not right)

    def test_all_pairs_of_images(self):
        for one, other in ((THREE, Group.mirrors(3)), (SQUARE, Group.mirrors(4)), (PAIRS, PAIRS), (QUATER, SQUARE),
                           (many_turning(2, 3), Group.turning(6)), (Group(3, THREE.makers[:1] * 2), Group.turning(2))):
            for first in other.moves:
                for second in other.moves:
                    self.assertIs(is_same_paper(one, other, ("makers", (first, second))),
                                  plain_map(one, other, (first, second)))

    def test_wrong_papers(self):
        six = beside(Group.turning(3), Group.turning(2))
        self.assert_true(is_same_paper(six, Group.turning(6), ("makers", ((2, 3, 4, 5, 0, 1), (3, 4, 5, 0, 1, 2)))))
        for value in WRONG + (("none",), ["none"], ("none", None), ("makers",), ("makers", ()), ("makers", ((1, 0, 2),)),
                              ("makers", [(1, 0, 2), (1, 2, 0)]), ["makers", ((1, 0, 2), (1, 2, 0))], (None, None),
                              ("makers", ((1, 0, 2), (1, 2, 0), (0, 1, 2))), ("makers", ((1, 0, 2), (1, 0, 2))),
                              ("makers", ((True, 0, 2), (1, 2, 0))), ("makers", ((1, 0, 2), (1, 2, False))),
                              ("makers", ((1, 0, 2), (1, 2, 0)), None), ("map", ((1, 0, 2), (1, 2, 0))),
                              ("makers", ((1, 2, 0), (1, 0, 2))), ("makers", ((0, 1, 2), (0, 1, 2))), "none", "makers",
                              ("makers", None), ("makers", (None, None)), ("makers", ((1, 0), (1, 0))), (THREE, SQUARE)):
            self.assert_false(is_same_paper(THREE, THREE, value))
        self.assert_true(is_same_paper(THREE, THREE, ("makers", ((0, 2, 1), (2, 0, 1)))))
        # The images make the other group, but its moves are fewer.
        self.assert_false(is_same_paper(Group.turning(4), Group.turning(2), ("makers", ((1, 0),))))
        self.assert_false(is_same_paper(Group.turning(2), Group.turning(4), ("makers", ((2, 3, 0, 1),))))

    def test_wrong_groups(self):
        for value in NO_GROUPS:
            for call in (are_same, same_paper):
                self.assert_raises(InvalidGroup, call, value, THREE)
                self.assert_raises(InvalidGroup, call, THREE, value)
            self.assert_raises(InvalidGroup, is_same_paper, value, THREE, ("none",))
            self.assert_raises(InvalidGroup, is_same_paper, THREE, value, None)

    def test_what_is_not_true(self):
        fours, quaters = beside(Group.turning(4), Group.turning(4)), beside(Group.turning(2), QUATER)
        self.assertEqual(fours.order_counts(), {1: 1, 2: 3, 4: 12})
        self.assertEqual(fours.order_counts(), quaters.order_counts())
        self.assert_false(are_same(fours, quaters))
        self.assertTrue(PAIRS.is_commutative and Group.turning(4).is_commutative)
        self.assert_false(are_same(PAIRS, Group.turning(4)))

    def test_order_divides(self):
        for group in SOME:
            for move in group.moves:
                self.assertEqual(group.order % order_of(move), 0)
                self.assertIn(back(move), group.moves)


if __name__ == "__main__":
    unittest.main()
