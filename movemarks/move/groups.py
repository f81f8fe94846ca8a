"""Groups of moves, products of groups, and which groups are the same."""

from movemarks.base.integers import is_between, need_between
from movemarks.errors import InvalidGroup, InvalidMove, InvalidOperation, TooMany
from movemarks.move.moves import MAX_PLACES, is_move, need_places
from movemarks.move.products import Lattice, families_of, orders_of, partners_of, same_map, table_of, words_of

MAX_ORDER = 120
MAX_SUBGROUPS = 200
MAX_CLASSES = 60
MAX_MAKERS = 6

_MOST_MEMBERS = 2000
_MOST_NAMED = 5


def _need_makers(places, makers):
    if not isinstance(makers, tuple) or len(makers) > MAX_MAKERS:
        raise InvalidMove("not a tuple of at most six makers")
    for maker in makers:
        if not is_move(places, maker):
            raise InvalidMove("a maker is no move of so many places")


def _next_places(number):
    """The move that leads each place to the next one, and the last one to 0."""
    return tuple([(place + 1) % number for place in range(number)])


class Group:
    """The group that some moves make."""

    def __init__(self, places, makers):
        need_places(places)
        _need_makers(places, makers)
        words = words_of(places, makers, MAX_ORDER)
        if words is None:
            raise TooMany(MAX_ORDER)
        moves = tuple(sorted(words))
        table = table_of(moves, makers, words)
        families = families_of(table, [moves.index(maker) for maker in makers], MAX_SUBGROUPS)
        if families is None:
            raise TooMany(MAX_SUBGROUPS)
        if len(families) > MAX_CLASSES:
            raise TooMany(MAX_CLASSES)
        self._places = places
        self._makers = makers
        self._words = words
        self._moves = moves
        self._lattice = Lattice(moves, makers, table, families)

    @classmethod
    def turning(cls, number):
        """The group of the moves that turn so many places in a ring."""
        need_places(number)
        return cls(number, (_next_places(number),))

    @classmethod
    def mirrors(cls, number):
        """The group of the moves of a polygon with so many corners."""
        need_between(number, 3, MAX_PLACES)
        mirror = tuple([(number - place) % number for place in range(number)])
        return cls(number, (_next_places(number), mirror))

    @classmethod
    def every(cls, number):
        """The group of all moves of so many places."""
        need_between(number, 1, _MOST_NAMED)
        if number == 1:
            return cls(1, (_next_places(1),))
        swap = (1, 0) + tuple(range(2, number))
        return cls(number, (_next_places(number), swap))

    @classmethod
    def even(cls, number):
        """The group of all moves of so many places that have the sign 1."""
        need_between(number, 1, _MOST_NAMED)
        makers = []
        for last in range(2, number):
            maker = list(range(number))
            maker[0], maker[1], maker[last] = 1, last, 0
            makers.append(tuple(maker))
        return cls(number, tuple(makers))

    @property
    def places(self):
        """The number of the places."""
        return self._places

    @property
    def makers(self):
        """The makers, as they were passed."""
        return self._makers

    @property
    def order(self):
        """The number of the moves."""
        return len(self._moves)

    @property
    def moves(self):
        """The ascending tuple of all moves."""
        return self._moves

    @property
    def lattice(self):
        """The subgroups and the table of the products, told by the indices of the moves."""
        return self._lattice

    @property
    def is_commutative(self):
        """Whether each product of two moves is that of both in the other sequence."""
        table = self._lattice.table
        makers = self._lattice.maker_indices
        return all([table[one][other] == table[other][one] for one in makers for other in makers])

    def word(self, move):
        """A word that tells the move."""
        if move not in self:
            raise InvalidMove("not a move of the group")
        return self._words[move]

    def of_word(self, word):
        """The move that a word tells."""
        if not isinstance(word, tuple) or len(word) > _MOST_MEMBERS:
            raise InvalidOperation("not a tuple of at most 2000 members")
        if not all([is_between(index, 0, len(self._makers) - 1) for index in word]):
            raise InvalidOperation("a member is no index of a maker")
        found = 0
        for index in word:
            found = self._lattice.table[found][self._lattice.maker_indices[index]]
        return self._moves[found]

    def order_counts(self):
        """The dict from the orders of the moves to how many moves have them."""
        counts = {}
        for order in sorted(orders_of(self._lattice.table)):
            counts[order] = counts.get(order, 0) + 1
        return counts

    def __contains__(self, value):
        return is_move(self._places, value) and value in self._lattice.index_of

    def __eq__(self, other):
        return isinstance(other, Group) and self._places == other._places and self._moves == other._moves

    def __len__(self):
        return len(self._moves)

    def __iter__(self):
        return iter(self._moves)

    def __str__(self):
        return f"group of {len(self._moves)} moves on {self._places} places"


def need_group(group):
    """Raises the error for a value that is no group."""
    if not isinstance(group, Group):
        raise InvalidGroup("not a group")


def beside(one, other):
    """The product of two groups: the places of the other one stand behind those of the one."""
    need_group(one)
    need_group(other)
    places = one.places + other.places
    if places > MAX_PLACES:
        raise TooMany(MAX_PLACES)
    if len(one.makers) + len(other.makers) > MAX_MAKERS:
        raise TooMany(MAX_MAKERS)
    behind = tuple(range(one.places, places))
    ahead = tuple(range(one.places))
    makers = [maker + behind for maker in one.makers]
    for maker in other.makers:
        makers.append(ahead + tuple([one.places + place for place in maker]))
    return Group(places, tuple(makers))


def _need_groups(one, other):
    need_group(one)
    need_group(other)


def are_same(one, other):
    """Whether a map that keeps products leads the moves of the one, one to one, onto those of the other one."""
    _need_groups(one, other)
    return same_map(one.lattice.table, other.lattice.table) is not None


def same_paper(one, other):
    """A paper that shows that two groups are the same, or that says that they are not."""
    _need_groups(one, other)
    found = same_map(one.lattice.table, other.lattice.table)
    if found is None:
        return ("none",)
    return ("makers", tuple([other.moves[found[maker]] for maker in one.lattice.maker_indices]))


def _do_images_fit(one, other, images):
    """Whether a map as told by `are_same` leads the makers of the one to the images."""
    if not isinstance(images, tuple) or len(images) != len(one.makers):
        return False
    if one.order != other.order or not all([image in other for image in images]):
        return False
    indices = [other.lattice.index_of[image] for image in images]
    return partners_of(one.lattice.table, one.lattice.maker_indices, other.lattice.table, indices) is not None


def is_same_paper(one, other, value):
    """Whether the value is a right paper of `same_paper`."""
    _need_groups(one, other)
    if not isinstance(value, tuple) or len(value) == 0:
        return False
    if len(value) == 2 and value[0] == "makers":
        return _do_images_fit(one, other, value[1])
    return value == ("none",) and not are_same(one, other)
