"""What the tests share: groups, wrong values, and checks of the errors that are raised."""

import unittest

from movemarks.errors import InvalidNumber, TooMany, UnknownName
from movemarks.move.groups import Group
from movemarks.point.sets import MovedSet

THREE = Group(3, ((1, 0, 2), (1, 2, 0)))
SQUARE = Group(4, ((1, 2, 3, 0), (0, 3, 2, 1)))
PAIRS = Group(4, ((1, 0, 2, 3), (0, 1, 3, 2)))
FIVE = Group.even(5)
QUATER = Group(8, ((1, 2, 3, 0, 5, 6, 7, 4), (4, 7, 6, 5, 2, 1, 0, 3)))
TWENTY = Group(5, ((1, 2, 3, 4, 0), (0, 2, 4, 1, 3)))
ALONE = Group(1, ())
MIRRORS = Group.mirrors(6)

# None of these is an integer from 1 on with at most sixty digits, a tuple with a member
# other than the ones told, a move, a subgroup, or the like.
WRONG = (
    None, True, False, -1, 10 ** 60, -10 ** 60, 10 ** 99, -10 ** 99, "", "a", "0", "\t\n", "x" * 3000,
    [], [0], [0, 1, 2], [(0, 1, 2)], {}, {0: 1}, {(0,): [1]}, (None,), ("a",), (True,), ((True,),), ([],), ({},),
    ((((((((0,),),),),),),),), (0, True, 2), (False, 1, 2), ((False, True, 2),), (0, 1, 10 ** 60), THREE,
    MovedSet.places_of(THREE), (THREE,), (10 ** 60,), (10 ** 99, 10 ** 99), ("none", 1), ("map", True),
)

NO_INTEGERS = tuple(value for value in WRONG if value != -1)
NO_GROUPS = tuple(value for value in WRONG if not isinstance(value, Group)) + ((THREE,), "THREE")
NO_SETS = tuple(value for value in WRONG if not isinstance(value, MovedSet)) + ((MovedSet.places_of(THREE),), "PLACES")
# None of these is a subgroup of THREE.
NO_SUBGROUPS = WRONG + (
    (), ((0, 2, 1),), ((0, 2, 1), (0, 1, 2)), [(0, 1, 2)], ((0, 1, 2), (0, 1, 2)), ((0, 1, 2), (0, 2, 1), (1, 0, 2)),
    ((0, 1, 2), (1, 2, 0)), ([0, 1, 2],), (((0, 1, 2),),), ((0, 1),), ((0, 1, 2, 3),), ((0, 1, 2), None), (0, 1, 2),
    ((0, True, 2),), ((False, 1, 2), (0, 2, 1)), ((0, 1, 2), (0, 2, True)), ((0, 1, 2),) * 200, SQUARE.moves, "()")
# None of these is a tuple of integers, one for each of the four classes of THREE.
NO_ROWS = WRONG + (
    (), (0, 0, 0), (0, 0, 0, 0, 0), [0, 0, 0, 0], (0, 0, 0, True), (False, 0, 0, 0), (0, 0, None, 0), (0, 0, 0, "0"),
    (0, 0, 0, (0,)), (10 ** 60, 0, 0, 0), (0, 0, 0, -10 ** 60), (0, 10 ** 99, 0, 0), ((0, 0, 0, 0),), "0000", {0: 0, 1: 0},
    ((0, 1), (0, 1), (0, 1), (0, 1)), 4)
NO_INDICES = WRONG + (4, 100, (0,), "1", 10 ** 59)
NO_PRIMES = WRONG + (0, 1, 4, 9, 91, 99, 100, 101, 103, -2, -3, "2", (2,), 10 ** 59)


def many_turning(*lengths):
    """The group made by one ring of each length, side by side."""
    places = sum(lengths)
    makers = []
    start = 0
    for length in lengths:
        maker = list(range(places))
        for at in range(length):
            maker[start + at] = start + (at + 1) % length
        makers.append(tuple(maker))
        start += length
    return Group(places, tuple(makers))


def times(one, other):
    """The product of two moves, told anew for the tests."""
    return tuple(one[place] for place in other)


def back(move):
    """The move that undoes one, told anew for the tests."""
    return tuple(move.index(place) for place in range(len(move)))


def made(places, makers):
    """The ascending tuple of the moves that some moves make, told anew for the tests."""
    moves = {tuple(range(places))}
    fresh = moves
    while fresh:
        fresh = {times(move, maker) for move in fresh for maker in makers} - moves
        moves = moves | fresh
    return tuple(sorted(moves))


def subgroups_of(group):
    """All subgroups in their order, told anew for the tests: each is made by one with fewer moves and by one move."""
    found = {group.moves[:1]}
    fresh = found
    while fresh:
        fresh = {made(group.places, one + (move,)) for one in fresh for move in group.moves} - found
        found = found | fresh
    return tuple(sorted(found, key=lambda one: (len(one), one)))


def turned_by(subgroup, by):
    """The subgroup, turned by a move, told anew for the tests."""
    return tuple(sorted(times(times(by, move), back(by)) for move in subgroup))


def classes_of(group):
    """The classes of subgroups in their order, each an ascending tuple of subgroups, told anew for the tests."""
    found = {tuple(sorted({turned_by(one, by) for by in group.moves})) for one in subgroups_of(group)}
    return tuple(sorted(found, key=lambda members: (len(members[0]), members[0])))


def cosets_of(group, subgroup):
    """The cosets of a subgroup in their order, told anew for the tests."""
    return sorted({tuple(sorted(times(move, member) for member in subgroup)) for move in group.moves})


def double_group():
    """The 120 tables of two rows and two columns over the five residues, of determinant 1, that move 24 pairs."""
    pairs = [(x, y) for x in range(5) for y in range(5) if x or y]
    makers = [tuple(pairs.index(((a * x + b * y) % 5, (c * x + d * y) % 5)) for x, y in pairs)
              for a, b, c, d in ((1, 1, 0, 1), (1, 0, 1, 1))]
    return Group(24, tuple(makers))


def first_of(call):
    """What calls a generator, and only then asks for its first element."""
    def told(*passed, **named):
        found = call(*passed, **named)
        return next(found, None)
    return told


class Case(unittest.TestCase):
    """A test case that can ask for an error and for what it keeps."""

    def assert_refused(self, call, right, *wrong):
        """Asks for the errors of wrong arguments, each alone, and together with wrong ones behind it.

        Of `wrong` there is a pair for each of the first parameters: its error, and values that raise it.
        """
        call(*right)
        for at, (error, values) in enumerate(wrong):
            for value in values:
                passed = right[:at] + (value,) + right[at + 1:]
                self.assert_kept(error, value, call, *passed)
                for later in range(at + 1, len(wrong)):
                    for other in wrong[later][1][:2] + wrong[later][1][-2:]:
                        self.assert_kept(error, value, call, *passed[:later], other, *passed[later + 1:])

    def assert_kept(self, error, value, call, *passed, **named):
        """Asks for an error, and that it keeps the value if it keeps one."""
        caught = self.assert_raises(error, call, *passed, **named)
        if error in (InvalidNumber, UnknownName):
            kept = caught.given if error is InvalidNumber else caught.wanted
            self.assertEqual(kept, value)
            self.assertIs(kept.__class__, value.__class__)

    def assert_raises(self, error, call, *passed, **named):
        """Asks for an error of just this class, and returns it."""
        with self.assertRaises(error) as caught:
            call(*passed, **named)
        self.assertIs(caught.exception.__class__, error)
        return caught.exception

    def assert_number(self, given, call, *passed, **named):
        """Asks for `InvalidNumber` that keeps what was given, and not only something equal to it."""
        kept = self.assert_raises(InvalidNumber, call, *passed, **named).given
        self.assertEqual(kept, given)
        self.assertIs(kept.__class__, given.__class__)

    def assert_too_many(self, most, call, *passed, **named):
        """Asks for `TooMany` with the number that is the most there may be."""
        self.assertEqual(self.assert_raises(TooMany, call, *passed, **named).most, most)

    def assert_true(self, found):
        """Asks for True itself."""
        self.assertIs(found, True)

    def assert_false(self, found):
        """Asks for False itself."""
        self.assertIs(found, False)
