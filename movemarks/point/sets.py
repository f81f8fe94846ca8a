"""Sets with moves: their parts, stabilizers, kinds and marks, sums, products and matches."""

from movemarks.base.integers import is_between, need_between
from movemarks.errors import InvalidOperation, InvalidSet, TooMany
from movemarks.lattice.needs import need_move, need_set_kinds, need_subgroup
from movemarks.lattice.subgroups import coset_bodies
from movemarks.move.groups import need_group
from movemarks.move.moves import followed, is_arrangement
from movemarks.move.products import mask_of

MOST_POINTS = 60


def need_points(many):
    """Raises the error for more points than a set can have."""
    if many > MOST_POINTS:
        raise TooMany(MOST_POINTS)


def points_of(lattice, kinds):
    """The number of the points of a set with these kinds."""
    return sum([many * (len(lattice.table) // len(body)) for many, body in zip(kinds, lattice.first_bodies())])


def _need_actions(group, size, actions):
    if not isinstance(actions, tuple) or len(actions) != len(group.makers):
        raise InvalidSet("not a tuple with a rearrangement for each maker")
    if not all([is_arrangement(size, action) for action in actions]):
        raise InvalidSet("an action is no rearrangement of the points")


def _leads_of(group, size, actions):
    """The rearrangements of the points by all moves; None if two words tell two for one move."""
    table = group.lattice.table
    leads = {0: tuple(range(size))}
    found = [0]
    at = 0
    while at < len(found):
        move = found[at]
        at += 1
        for maker, action in zip(group.lattice.maker_indices, actions):
            longer = table[move][maker]
            lead = followed(leads[move], action)
            if longer not in leads:
                leads[longer] = lead
                found.append(longer)
            elif leads[longer] != lead:
                return None
    return tuple([leads[move] for move in range(group.order)])


def _parts_of(leads, size):
    parts = []
    for point in range(size):
        part = tuple(sorted(set([lead[point] for lead in leads])))
        if part[0] == point:
            parts.append(part)
    return tuple(parts)


def _stabilizer_body(leads, point):
    return tuple([move for move, lead in enumerate(leads) if lead[point] == point])


def _kinds_of(lattice, parts, bodies):
    kinds = [0 for _ in lattice.families]
    for part in parts:
        index = lattice.family_at[lattice.body_at[bodies[part[0]]]]
        kinds[index] = kinds[index] + 1
    return tuple(kinds)


def _marks_of(lattice, bodies):
    masks = [mask_of(body) for body in bodies]
    marks = []
    for family in lattice.families:
        still = lattice.masks[family[0]]
        marks.append(len([mask for mask in masks if still & mask == still]))
    return tuple(marks)


def _coset_actions(lattice, body):
    """The rearrangements of the cosets of a body by the makers, one for each maker."""
    coset_rows = coset_bodies(lattice.table, body)
    at = {move: index for index, coset in enumerate(coset_rows) for move in coset}
    return [tuple([at[lattice.table[maker][coset[0]]] for coset in coset_rows])
            for maker in lattice.maker_indices]


class MovedSet:
    """A set with moves."""

    def __init__(self, group, size, actions):
        need_group(group)
        need_between(size, 0, MOST_POINTS)
        _need_actions(group, size, actions)
        leads = _leads_of(group, size, actions)
        if leads is None:
            raise InvalidSet("two words with one product do not lead each point alike")
        bodies = tuple([_stabilizer_body(leads, point) for point in range(size)])
        self._group = group
        self._actions = actions
        self._leads = leads
        self._bodies = bodies
        self._parts = _parts_of(leads, size)
        self._kinds = _kinds_of(group.lattice, self._parts, bodies)
        self._marks = _marks_of(group.lattice, bodies)

    @classmethod
    def of_cosets(cls, group, subgroup):
        """The cosets of a subgroup, ascending."""
        need_group(group)
        body = group.lattice.bodies[need_subgroup(group, subgroup)]
        size = group.order // len(body)
        need_points(size)
        return cls(group, size, tuple(_coset_actions(group.lattice, body)))

    @classmethod
    def of_kinds(cls, group, kinds):
        """A set with these kinds: class after class the cosets of its first subgroup."""
        need_group(group)
        need_set_kinds(group, kinds)
        need_points(points_of(group.lattice, kinds))
        bodies = group.lattice.first_bodies()
        size = 0
        actions = [() for _ in group.makers]
        for many, body in zip(kinds, bodies):
            if many > 0:
                part = _coset_actions(group.lattice, body)
                for _ in range(many):
                    actions = _side_by_side(actions, part, size)
                    size = size + group.order // len(body)
        return cls(group, size, tuple(actions))

    @classmethod
    def places_of(cls, group):
        """The places of a group, led by its moves."""
        need_group(group)
        return cls(group, group.places, group.makers)

    @property
    def group(self):
        """The group."""
        return self._group

    @property
    def size(self):
        """The number of the points."""
        return len(self._bodies)

    @property
    def actions(self):
        """The rearrangements of the points, one for each maker of the group."""
        return self._actions

    @property
    def kinds(self):
        """The kinds: how many parts are like the cosets of the subgroups of each class."""
        return self._kinds

    @property
    def marks(self):
        """The mark row: how many points the subgroups of each class leave."""
        return self._marks

    def _need_point(self, point):
        need_between(point, 0, len(self._bodies) - 1)

    def led(self, move, point):
        """Where a move leads a point."""
        index = need_move(self._group, move)
        self._need_point(point)
        return self._leads[index][point]

    def stabilizer(self, point):
        """The subgroup of the moves that leave a point."""
        self._need_point(point)
        return tuple([self._group.moves[index] for index in self._bodies[point]])

    def still(self, subgroup):
        """The ascending tuple of the points that all moves of a subgroup leave."""
        mask = self._group.lattice.masks[need_subgroup(self._group, subgroup)]
        return tuple([point for point, body in enumerate(self._bodies) if mask_of(body) & mask == mask])

    def parts(self):
        """The ascending tuple of the parts, each an ascending tuple."""
        return self._parts

    def action_by(self, move):
        """The rearrangement of the points by a move of the group."""
        return self._leads[self._group.lattice.index_of[move]]

    def __add__(self, other):
        if not isinstance(other, MovedSet):
            return NotImplemented
        need_one_group(self, other)
        size = len(self._bodies)
        need_points(size + len(other._bodies))
        actions = _side_by_side(self._actions, [other.action_by(maker) for maker in self._group.makers], size)
        return MovedSet(self._group, size + len(other._bodies), tuple(actions))

    def __mul__(self, other):
        if not isinstance(other, MovedSet):
            return NotImplemented
        need_one_group(self, other)
        size = len(other._bodies)
        need_points(len(self._bodies) * size)
        actions = []
        for maker, action in zip(self._group.makers, self._actions):
            lead = other.action_by(maker)
            actions.append(tuple([one * size + another for one in action for another in lead]))
        return MovedSet(self._group, len(self._bodies) * size, tuple(actions))

    def __eq__(self, other):
        return isinstance(other, MovedSet) and self._group == other._group and self._leads == other._leads

    def __len__(self):
        return len(self._bodies)

    def __str__(self):
        return f"set of {len(self._bodies)} points in {len(self._parts)} parts"


def _side_by_side(actions, others, size):
    """The rearrangements of so many points, and of the points behind them, one for each maker."""
    return [tuple(list(action) + [size + point for point in other]) for action, other in zip(actions, others)]


def need_set(moved):
    """Raises the error for a value that is no set with moves."""
    if not isinstance(moved, MovedSet):
        raise InvalidSet("not a set with moves")


def need_one_group(one, other):
    """Raises the error for two sets whose groups are not equal."""
    if one.group != other.group:
        raise InvalidOperation("the groups of both sets are not equal")


def need_sets(one, other):
    """Raises the errors for two values that are no sets with moves of equal groups."""
    need_set(one)
    need_set(other)
    need_one_group(one, other)


def _first_apart(one, other):
    """The first class at which the marks differ, or None."""
    for index, mark in enumerate(one.marks):
        if mark != other.marks[index]:
            return index
    return None


def _partner_of(one, other, point, taken):
    """The first point of the other set with the stabilizer of a point, in no part that is taken."""
    stabilizer = one.stabilizer(point)
    for partner in range(other.size):
        if partner not in taken and other.stabilizer(partner) == stabilizer:
            return partner
    return None


def _match_of(one, other):
    match_points = [0 for _ in range(one.size)]
    taken = {}
    for part in one.parts():
        partner = _partner_of(one, other, part[0], taken)
        for move in one.group:
            match_points[one.led(move, part[0])] = other.led(move, partner)
            taken[other.led(move, partner)] = True
    return tuple(match_points)


def match_paper(one, other):
    """A paper that shows that two sets are alike, or a class at which their marks differ."""
    need_sets(one, other)
    index = _first_apart(one, other)
    if index is not None:
        return ("class", index)
    return ("map", _match_of(one, other))


def _is_match(one, other, value):
    if one.size != other.size or not is_arrangement(one.size, value):
        return False
    for maker, action in zip(one.group.makers, one.actions):
        for point, target in enumerate(action):
            if other.led(maker, value[point]) != value[target]:
                return False
    return True


def is_match_paper(one, other, value):
    """Whether the value is a right paper of `match_paper`."""
    need_sets(one, other)
    if not isinstance(value, tuple) or len(value) != 2:
        return False
    if value[0] == "map":
        return _is_match(one, other, value[1])
    if value[0] != "class" or not is_between(value[1], 0, len(one.marks) - 1):
        return False
    return one.marks[value[1]] != other.marks[value[1]]
