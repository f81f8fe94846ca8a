"""Mark rows of the integers 1 and -1."""

from movemarks.base.integers import is_between
from movemarks.errors import InvalidRow
from movemarks.lattice.needs import is_long_row, need_index, need_kinds
from movemarks.lattice.subgroups import keeper_body
from movemarks.mark.marks import kinds_of_row, parts_by_class, row_of_kinds
from movemarks.move.groups import need_group
from movemarks.move.products import coset_firsts


def _is_row_of_signs(group, value):
    return is_long_row(group, value) and all([member in (1, -1) for member in value])


def _need_signs(group, row):
    need_group(group)
    if not _is_row_of_signs(group, row):
        raise InvalidRow("not a tuple of the integers 1 and -1, one for each class")


def is_sign_row(group, value):
    """Whether the value is a mark row all of whose members are 1 or -1."""
    need_group(group)
    return _is_row_of_signs(group, value) and kinds_of_row(group, value) is not None


def _class_with(lattice, index, move):
    """The class of the subgroup that the first subgroup of a class and a move make."""
    mask = lattice.masks[lattice.families[index][0]]
    return lattice.family_at[lattice.least_place(mask | (1 << move))]


def _sign_at(lattice, row, index, move):
    """The sign to which the sign map at a class leads a move."""
    return row[_class_with(lattice, index, move)] * row[index]


def sign_map(group, row, index):
    """The signs to which the sign map at a class leads the moves of the keeper of its first subgroup."""
    _need_signs(group, row)
    need_index(group, index)
    lattice = group.lattice
    return tuple([_sign_at(lattice, row, index, move) for move in keeper_body(lattice, lattice.families[index][0])])


def _keeper_firsts(lattice, index):
    """The ascending list of the least moves of the cosets of the first subgroup of a class in its keeper."""
    place = lattice.families[index][0]
    firsts = coset_firsts(lattice.table, lattice.bodies[place])
    return [move for move in keeper_body(lattice, place) if firsts[move] == move]


def _unlike_pair(lattice, row, index):
    """Two moves whose signs at a class have another product than the sign of their product; or None."""
    firsts = _keeper_firsts(lattice, index)
    signs = {move: _sign_at(lattice, row, index, move) for move in firsts}
    for one in firsts:
        for other in firsts:
            if _sign_at(lattice, row, index, lattice.table[one][other]) != signs[one] * signs[other]:
                return one, other
    return None


def sign_paper(group, row):
    """A paper that shows that a row of 1 and -1 is a mark row, or that it is none."""
    _need_signs(group, row)
    kinds = kinds_of_row(group, row)
    if kinds is not None:
        return ("kinds", kinds)
    index = 0
    pair = _unlike_pair(group.lattice, row, index)
    # A row of signs whose sign maps all lead products to products is a mark row.
    while pair is None:
        index += 1
        pair = _unlike_pair(group.lattice, row, index)
    return ("moves", index, group.moves[pair[0]], group.moves[pair[1]])


def _are_right_moves(group, row, index, one, other):
    if not is_between(index, 0, len(row) - 1) or one not in group or other not in group:
        return False
    lattice = group.lattice
    first, second = lattice.index_of[one], lattice.index_of[other]
    inside = keeper_body(lattice, lattice.families[index][0])
    if first not in inside or second not in inside:
        return False
    signs = _sign_at(lattice, row, index, first) * _sign_at(lattice, row, index, second)
    return _sign_at(lattice, row, index, lattice.table[first][second]) != signs


def is_sign_paper(group, row, value):
    """Whether the value is a right paper of `sign_paper`."""
    _need_signs(group, row)
    if not isinstance(value, tuple):
        return False
    if len(value) == 2 and value[0] == "kinds":
        return is_long_row(group, value[1]) and row_of_kinds(group, value[1]) == row
    return len(value) == 4 and value[0] == "moves" and _are_right_moves(group, row, value[1], value[2], value[3])


def _conditions_at(lattice, index):
    """The conditions that the sign map at a class leads products to products.

    Each is an integer that has the bits whose places are those classes at which a sign row has -1 evenly often.
    """
    firsts = _keeper_firsts(lattice, index)
    bits = {move: 1 << _class_with(lattice, index, move) for move in firsts}
    least = coset_firsts(lattice.table, lattice.bodies[lattice.families[index][0]])
    found = {}
    for one in firsts:
        for other in firsts:
            both = bits[least[lattice.table[one][other]]]
            found[both ^ bits[one] ^ bits[other] ^ (1 << index)] = True
    return list(found)


def _left_of(rows, condition):
    """What is left of a condition if classes are replaced by what conditions tell of them."""
    left = condition
    for top in rows:
        if (left >> top) & 1 == 1:
            left = left ^ rows[top]
    return left


def _reduced_conditions(lattice):
    """The dict from some classes to conditions that tell them, each by classes ahead that no condition tells."""
    rows = {}
    for index in range(len(lattice.families)):
        for condition in _conditions_at(lattice, index):
            left = _left_of(rows, condition)
            if left != 0:
                top = left.bit_length() - 1
                rows = {other: _left_of({top: left}, rows[other]) for other in rows}
                rows[top] = left
    return rows


def _basis(lattice):
    """The list of the rows of the basis: each has -1 at a class that no condition tells, and at what it tells."""
    rows = _reduced_conditions(lattice)
    many = len(lattice.families)
    found = []
    for lead in range(many):
        if lead not in rows:
            inside = [at == lead or (at in rows and (rows[at] >> lead) & 1 == 1) for at in range(many)]
            found.append(tuple([-1 if is_in else 1 for is_in in inside]))
    return found


def sign_basis(group):
    """The only basis of the sign rows in which each has 1 at the leads of all others."""
    need_group(group)
    return tuple(_basis(group.lattice))


def sign_count(group):
    """The number of all sign rows."""
    need_group(group)
    return 1 << len(_basis(group.lattice))


def each_sign_row(group):
    """All sign rows, ascending."""
    need_group(group)
    basis = _basis(group.lattice)
    waiting = [(tuple([1 for _ in group.lattice.families]), 0)]
    while len(waiting) > 0:
        row, at = waiting.pop()
        if at == len(basis):
            yield row
        else:
            # Of two products the one with the row of a lead has -1 there, so it is put last, and taken first.
            waiting.append((row, at + 1))
            waiting.append((tuple([one * other for one, other in zip(row, basis[at])]), at + 1))


def _part_row(group, kinds):
    return tuple([-1 if many % 2 == 1 else 1 for many in parts_by_class(group, row_of_kinds(group, kinds))])


def part_row(group, kinds):
    """The row with -1 where the first subgroup of a class has oddly many parts, for any kinds."""
    need_group(group)
    need_kinds(group, kinds)
    return _part_row(group, kinds)


def half_rows(group):
    """Pairs of the class of each subgroup with half of the moves and of the part row of its cosets."""
    need_group(group)
    bodies = group.lattice.first_bodies()
    halves = [index for index, body in enumerate(bodies) if 2 * len(body) == group.order]
    units = [[1 if at == index else 0 for at in range(len(bodies))] for index in halves]
    return tuple([(index, _part_row(group, unit)) for index, unit in zip(halves, units)])
