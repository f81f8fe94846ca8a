"""What the tests share: groups, wrong values, and checks of the errors that are raised."""

import unittest

from movemarks.errors import InvalidNumber, TooMany
from movemarks.move.groups import Group
from movemarks.point.sets import MovedSet

THREE = Group(3, ((1, 0, 2), (1, 2, 0)))
SQUARE = Group(4, ((1, 2, 3, 0), (0, 3, 2, 1)))
PAIRS = Group(4, ((1, 0, 2, 3), (0, 1, 3, 2)))
FIVE = Group.even(5)
QUATER = Group(8, ((1, 2, 3, 0, 5, 6, 7, 4), (4, 7, 6, 5, 2, 1, 0, 3)))
TWENTY = Group(5, ((1, 2, 3, 4, 0), (0, 2, 4, 1, 3)))
ALONE = Group(1, ())

# None of these is an integer from 1 on with at most sixty digits, a tuple with a member
# other than the ones told, a move, a subgroup, or the like.
WRONG = (
    None, True, False, -1, 10 ** 60, -10 ** 60, 10 ** 99, -10 ** 99, "", "a", "0", "\t\n", "x" * 3000,
    [], [0], [0, 1, 2], [(0, 1, 2)], {}, {0: 1}, {(0,): [1]}, (None,), ("a",), (True,), ((True,),), ([],), ({},),
    ((((((((0,),),),),),),),), (0, True, 2), (False, 1, 2), ((False, True, 2),), (0, 1, 10 ** 60), THREE,
    MovedSet.places_of(THREE), (THREE,), (10 ** 60,), (10 ** 99, 10 ** 99), ("none", 1), ("map", True),
)

NO_INTEGERS = tuple(value for value in WRONG if value != -1)


def many_turning(*lengths):
    """The group made by one ring of each length, side by side."""
    places = sum(lengths)
    makers = []
    start = 0
    for length in lengths:
        maker = list(range(places))
        for at in range(length):
            maker[start + at] = start + (at + 1) % length
        makers.append(tuple(maker))
        start += length
    return Group(places, tuple(makers))


def times(one, other):
    """The product of two moves, told anew for the tests."""
    return tuple(one[place] for place in other)


def back(move):
    """The move that undoes one, told anew for the tests."""
    return tuple(move.index(place) for place in range(len(move)))


def made(places, makers):
    """The ascending tuple of the moves that some moves make, told anew for the tests."""
    moves = {tuple(range(places))}
    fresh = moves
    while fresh:
        fresh = {times(move, maker) for move in fresh for maker in makers} - moves
        moves = moves | fresh
    return tuple(sorted(moves))


class Case(unittest.TestCase):
    """A test case that can ask for an error and for what it keeps."""

    def assert_raises(self, error, call, *passed, **named):
        """Asks for an error of just this class, and returns it."""
        with self.assertRaises(error) as caught:
            call(*passed, **named)
        self.assertIs(caught.exception.__class__, error)
        return caught.exception

    def assert_number(self, given, call, *passed, **named):
        """Asks for `InvalidNumber` that keeps what was given, and not only something equal to it."""
        kept = self.assert_raises(InvalidNumber, call, *passed, **named).given
        self.assertEqual(kept, given)
        self.assertIs(kept.__class__, given.__class__)

    def assert_too_many(self, most, call, *passed, **named):
        """Asks for `TooMany` with the number that is the most there may be."""
        self.assertEqual(self.assert_raises(TooMany, call, *passed, **named).most, most)

    def assert_true(self, found):
        """Asks for True itself."""
        self.assertIs(found, True)

    def assert_false(self, found):
        """Asks for False itself."""
        self.assertIs(found, False)
