"""Moves of places: products, powers, cycles, signs, and moves turned by moves."""

from math import lcm

from movemarks.base.integers import is_between, need_between
from movemarks.errors import InvalidMove, InvalidOperation

MAX_PLACES = 24
MAX_POWER = 10 ** 30


def is_arrangement(size, value):
    """Whether the value is a tuple of the integers from 0 to the size less 1, each once."""
    if not isinstance(value, tuple) or len(value) != size:
        return False
    if not all([is_between(member, 0, size - 1) for member in value]):
        return False
    return len(set(value)) == size


def need_places(places):
    """Raises the error for a value that is no number of places."""
    need_between(places, 1, MAX_PLACES)


def is_move(places, value):
    """Whether the value is a move of so many places."""
    need_places(places)
    return is_arrangement(places, value)


def unit_of(places):
    """The move that leads each of so many places to itself."""
    need_places(places)
    return tuple(range(places))


def _need_move(move):
    if not isinstance(move, tuple) or not 1 <= len(move) <= MAX_PLACES:
        raise InvalidMove("not a tuple of 1 to 24 places")
    if not is_arrangement(len(move), move):
        raise InvalidMove("not the places from 0 on, each once")


def _need_pair(one, other):
    _need_move(one)
    _need_move(other)
    if len(one) != len(other):
        raise InvalidOperation("the moves have unlike numbers of places")


def followed(one, other):
    """What two rearrangements of equally many places make together, the other one done first."""
    return tuple([one[place] for place in other])


def turned_back(move):
    """The rearrangement that undoes one."""
    back = [0 for _ in move]
    for place, target in enumerate(move):
        back[target] = place
    return tuple(back)


def product_of(one, other):
    """The product of two moves: the other one is done first."""
    _need_pair(one, other)
    return followed(one, other)


def undone(move):
    """The move that undoes the move."""
    _need_move(move)
    return turned_back(move)


def _cycles(move):
    seen = set()
    rings = []
    for start in range(len(move)):
        if start not in seen:
            ring = []
            place = start
            while place not in seen:
                seen.add(place)
                ring.append(place)
                place = move[place]
            rings.append(tuple(ring))
    return tuple(rings)


def power_of(move, number):
    """The power of the move with an exponent that can be 0 or below."""
    _need_move(move)
    need_between(number, -MAX_POWER, MAX_POWER)
    power = [0 for _ in move]
    for ring in _cycles(move):
        for at, place in enumerate(ring):
            power[place] = ring[(at + number) % len(ring)]
    return tuple(power)


def order_of(move):
    """The least exponent of at least 1 whose power is the unit."""
    _need_move(move)
    order = 1
    for ring in _cycles(move):
        order = lcm(order, len(ring))
    return order


def sign_of(move):
    """1 if evenly many pairs of members stand in the wrong order, and -1 otherwise."""
    _need_move(move)
    return 1 if (len(move) - len(_cycles(move))) % 2 == 0 else -1


def cycles(move):
    """The tuple of the cycles of the move, each begun with its least place."""
    _need_move(move)
    return _cycles(move)


def still_places(move):
    """The ascending tuple of the places that the move leaves."""
    _need_move(move)
    return tuple([place for place, target in enumerate(move) if place == target])


def _need_rings(places, rings):
    if not isinstance(rings, tuple):
        raise InvalidOperation("the rings are no tuple")
    seen = set()
    for ring in rings:
        if not isinstance(ring, tuple) or len(ring) == 0:
            raise InvalidOperation("a ring is no tuple of at least one place")
        for place in ring:
            if not is_between(place, 0, places - 1) or place in seen:
                raise InvalidOperation("a member of a ring is no place, or stands twice")
            seen.add(place)


def move_of_cycles(places, rings):
    """The move that leads each place of a ring to the next one, and leaves all other places."""
    need_places(places)
    _need_rings(places, rings)
    move = list(range(places))
    for ring in rings:
        for at, place in enumerate(ring):
            move[place] = ring[(at + 1) % len(ring)]
    return tuple(move)


def _turned(move, by):
    return followed(followed(by, move), turned_back(by))


def turned_move(move, by):
    """The move, turned by a move."""
    _need_pair(move, by)
    return _turned(move, by)


def turning_move(one, other):
    """Any move by which the one, turned, is the other one, or None."""
    _need_pair(one, other)
    rings = sorted(_cycles(one), key=len)
    targets = sorted(_cycles(other), key=len)
    turning = [0 for _ in one]
    for ring, target in zip(rings, targets):
        if len(ring) != len(target):
            return None
        for place, to in zip(ring, target):
            turning[place] = to
    return tuple(turning)


def is_turning_move(one, other, value):
    """Whether the value is a move by which the one, turned, is the other one."""
    _need_pair(one, other)
    return is_arrangement(len(one), value) and _turned(one, value) == other
