"""Equal counts at single moves: which sets they do not tell apart, and tables that go along."""

from movemarks.base.integers import is_whole
from movemarks.base.tables import is_invertible, kernel, rank
from movemarks.errors import TooMany
from movemarks.lattice.needs import is_long_row, need_kinds
from movemarks.mark.marks import class_by_move, mark_table, row_of_kinds
from movemarks.mark.rows import plus_and_less
from movemarks.move.groups import need_group
from movemarks.point.sets import need_points, need_set, need_sets

MAX_PAIRED = 12
MOST_ENTRY = 1000


def _single_indices(lattice):
    return sorted(set(class_by_move(lattice)))


def single_classes(group):
    """The ascending tuple of the indices of the classes whose subgroups one move makes."""
    need_group(group)
    return tuple(_single_indices(group.lattice))


def _single_marks(group, kinds):
    row = row_of_kinds(group, kinds)
    return tuple([row[index] for index in _single_indices(group.lattice)])


def single_marks(group, kinds):
    """The marks of kinds at the single classes, by their indices."""
    need_group(group)
    need_kinds(group, kinds)
    return _single_marks(group, kinds)


def _counts_of(moved):
    return tuple([moved.marks[index] for index in class_by_move(moved.group.lattice)])


def counts_of(moved):
    """The numbers of the points that stay, one for each move of the group of the set, ascending."""
    need_set(moved)
    return _counts_of(moved)


def equal_lattice(group):
    """The echelon of the kinds with the mark 0 at each single class."""
    need_group(group)
    table = mark_table(group)
    return kernel(tuple([table[index] for index in _single_indices(group.lattice)]))


def is_equal_kinds(group, value):
    """Whether the value is kinds, with any number of digits, with the mark 0 at each single class."""
    need_group(group)
    return is_long_row(group, value) and all([mark == 0 for mark in _single_marks(group, value)])


def apart(group, kinds):
    """The kinds of two sets without a class in both, of which these kinds are the difference."""
    need_group(group)
    need_kinds(group, kinds)
    return plus_and_less(kinds)


def are_equal_counts(one, other):
    """Whether equally many points of both sets stay at each move."""
    need_sets(one, other)
    return _counts_of(one) == _counts_of(other)


def _is_long_table(height, width, value):
    """Whether the value has so many rows of so many integers, with any number of digits."""
    if not isinstance(value, tuple) or len(value) != height:
        return False
    if not all([isinstance(row, tuple) and len(row) == width for row in value]):
        return False
    return all([is_whole(entry) for row in value for entry in row])


def _goes_with(action, other_action, table):
    """Whether each entry stands, too, where the rearrangements lead its row and its column."""
    for row, target in zip(table, action):
        if not all([table[target][column] == entry for entry, column in zip(row, other_action)]):
            return False
    return True


def _does_go_along(one, other, value):
    if not _is_long_table(one.size, other.size, value):
        return False
    makers = one.group.makers
    return all([_goes_with(one.action_by(maker), other.action_by(maker), value) for maker in makers])


def does_go_along(one, other, value):
    """Whether the value is a table, with a row for each point of the one set, that goes along with all moves."""
    need_sets(one, other)
    return _does_go_along(one, other, value)


def _pair_parts(one, other):
    leads = [(one.action_by(move), other.action_by(move)) for move in one.group]
    seen = set()
    parts = []
    for low in range(one.size):
        for high in range(other.size):
            if (low, high) not in seen:
                part = sorted(set([(action[low], other_action[high]) for action, other_action in leads]))
                for pair in part:
                    seen.add(pair)
                parts.append(tuple(part))
    return tuple(parts)


def pair_parts(one, other):
    """The ascending tuple of the parts, ascending tuples, into which the moves lead the pairs of points."""
    need_sets(one, other)
    need_points(one.size * other.size)
    return _pair_parts(one, other)


def _table_of(size, parts, entries):
    """The table that has at each pair the entry of its part."""
    rows = [[0 for _ in range(size)] for _ in range(size)]
    for part, entry in zip(parts, entries):
        for low, high in part:
            rows[low][high] = entry
    return tuple([tuple(row) for row in rows])


def _grown(size, parts, entries, added):
    """The entries with so much added to each one, in turn, at which this makes the rank of their table grow."""
    reached = rank(_table_of(size, parts, entries))
    for at in range(len(parts)):
        tried = entries[:at] + [entries[at] + added] + entries[at + 1:]
        now = rank(_table_of(size, parts, tried))
        if now > reached:
            entries, reached = tried, now
    return entries


def _invertible_table(size, parts):
    """An invertible table of integers from 0 on with equal entries at the pairs of each part.

    As long as the table is not invertible, there is a part at which another entry makes the rank grow: some
    determinant of one row more is 0 now, and a polynomial of what is added there, so it is not 0 for one of the
    integers from 1 to twelve. The rank grows at most twelve times, so no entry comes near to MOST_ENTRY.
    """
    entries = [0 for _ in parts]
    added = 1
    while not is_invertible(_table_of(size, parts, entries)):
        entries = _grown(size, parts, entries, added)
        added = added % MAX_PAIRED + 1
    return _table_of(size, parts, entries)


def _need_few(one, other):
    need_sets(one, other)
    if max(one.size, other.size) > MAX_PAIRED:
        raise TooMany(MAX_PAIRED)


def equal_paper(one, other):
    """A paper that shows that equally many points stay at each move, or a move at which they do not."""
    _need_few(one, other)
    for move, count, other_count in zip(one.group.moves, _counts_of(one), _counts_of(other)):
        if count != other_count:
            return ("move", move)
    return ("table", _invertible_table(one.size, _pair_parts(one, other)))


def is_equal_paper(one, other, value):
    """Whether the value is a right paper of `equal_paper`."""
    _need_few(one, other)
    if not isinstance(value, tuple) or len(value) != 2:
        return False
    if value[0] == "table":
        # A table without rows does not tell how many columns it has.
        return one.size == other.size and _does_go_along(one, other, value[1]) and is_invertible(value[1])
    if value[0] != "move" or value[1] not in one.group:
        return False
    at = one.group.lattice.index_of[value[1]]
    return _counts_of(one)[at] != _counts_of(other)[at]
