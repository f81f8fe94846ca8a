"""Lots of classes, and the least marks that what is made of a lot has at all of some classes."""

from math import gcd

from movemarks.base.integers import is_between, is_whole, need_prime, part_at
from movemarks.base.tables import bezout, elementary_divisors, mixed
from movemarks.equal.singles import single_classes
from movemarks.errors import InvalidOperation, TooMany
from movemarks.lattice.needs import is_long_row
from movemarks.lattice.subgroups import many_above
from movemarks.mark.marks import kinds_of_row, mark_table, row_of_kinds
from movemarks.mark.rows import bottom_of_row
from movemarks.move.groups import need_group

MAX_LOT = 24


def _is_lot(group, value):
    if not isinstance(value, tuple) or len(value) == 0:
        return False
    if not all([is_between(index, 0, len(group.lattice.families) - 1) for index in value]):
        return False
    return all([low < high for low, high in zip(value, value[1:])])


def _need_lot(group, lot):
    need_group(group)
    if not _is_lot(group, lot):
        raise InvalidOperation("not an ascending tuple of one or more indices of classes")


def _closing(lattice, lot):
    """The least closed lot with all classes of a lot."""
    families = lattice.families
    return tuple([index for index, family in enumerate(families)
                  if any([many_above(lattice, family[0], families[high]) > 0 for high in lot])])


def closed_lot(group, lot):
    """The closing of the lot."""
    _need_lot(group, lot)
    return _closing(group.lattice, lot)


def is_closed_lot(group, value):
    """Whether the value is a lot that has with a class all classes of subgroups within."""
    need_group(group)
    return _is_lot(group, value) and _closing(group.lattice, value) == value


def prime_lot(group, prime):
    """The closed lot of the classes of the subgroups whose sizes are powers of the prime."""
    need_group(group)
    need_prime(prime)
    sizes = [len(body) for body in group.lattice.first_bodies()]
    return tuple([index for index, size in enumerate(sizes) if part_at(prime, size) == size])


def single_lot(group):
    """The closed lot of all classes whose subgroups one move makes."""
    return single_classes(group)


def _is_made_of(group, closing, value):
    if not is_long_row(group, value):
        return False
    return all([many == 0 or index in closing for index, many in enumerate(value)])


def is_made_of(group, lot, value):
    """Whether the value is kinds, with any number of digits, that are 0 outside the closing of the lot."""
    _need_lot(group, lot)
    return _is_made_of(group, _closing(group.lattice, lot), value)


def _line_of(table, singles, index):
    """The marks of the cosets of a class at the single classes, and behind them the kinds."""
    marks = [table[single][index] for single in singles]
    return marks + [1 if at == index else 0 for at in range(len(table))]


def _put_in(lines, line, bound):
    """The lines such that they, and multiples of the bound, make what they made together with a further line.

    Each line has 0 behind its own place in the list, and a divisor of the bound there.
    """
    changed = list(lines)
    left = line
    for at in range(len(lines) - 1, -1, -1):
        own = changed[at]
        if left[at] % own[at] == 0:
            left = mixed(left, 1, own, -(left[at] // own[at]), bound)
        else:
            shared, own_times, left_times = bezout(own[at], left[at])
            changed[at] = mixed(own, own_times, left, left_times, bound)
            left = mixed(left, own[at] // shared, own, -(left[at] // shared), bound)
    return changed


def _least_made(lines, line, bound):
    """The least integer of at least 1 by which a line can be made of lines, and what is left of its multiple then."""
    multiple = 1
    left = line
    for at in range(len(lines) - 1, -1, -1):
        own = lines[at]
        times = own[at] // gcd(own[at], left[at])
        left = mixed(left, times, own, -(left[at] * times // own[at]), bound)
        multiple = multiple * times
    return multiple, left


def _single_factor(group, closing, singles):
    """The least mark that some kinds made of a closed lot have at all single classes, and such kinds.

    All is told modulo the number of the moves: a row with multiples of it at the single classes, and 0 elsewhere, is
    the mark row of kinds that are 0 elsewhere, too.
    """
    table = mark_table(group)
    lines = [_line_of(table, singles, index) for index in singles]
    for index in closing:
        if index not in singles:
            lines = _put_in(lines, _line_of(table, singles, index), group.order)
    start = [1 for _ in singles] + [0 for _ in table]
    number, left = _least_made(lines, start, group.order)
    kinds = [-many for many in left[len(singles):]]
    marks = row_of_kinds(group, kinds)
    rest = [number - marks[index] if index in singles else 0 for index in range(len(table))]
    return number, tuple([many + more for many, more in zip(kinds, kinds_of_row(group, rest))])


def _first_outside(closing, singles):
    """The first single class outside a closed lot, or None."""
    for index in singles:
        if index not in closing:
            return index
    return None


def single_factor(group, lot):
    """The least mark at every single class with kinds that have it, or a single class outside the closing."""
    _need_lot(group, lot)
    closing, singles = _closing(group.lattice, lot), single_classes(group)
    outside = _first_outside(closing, singles)
    if outside is not None:
        return ("class", outside)
    number, kinds = _single_factor(group, closing, singles)
    return ("factor", number, kinds)


def _is_right_factor(group, closing, number, kinds):
    singles = single_classes(group)
    if _first_outside(closing, singles) is not None or not is_whole(number) or not _is_made_of(group, closing, kinds):
        return False
    marks = row_of_kinds(group, kinds)
    if any([marks[index] != number for index in singles]):
        return False
    return number == _single_factor(group, closing, singles)[0]


def is_single_factor(group, lot, value):
    """Whether the value is a right result of `single_factor`."""
    _need_lot(group, lot)
    closing = _closing(group.lattice, lot)
    if not isinstance(value, tuple):
        return False
    if len(value) == 3 and value[0] == "factor":
        return _is_right_factor(group, closing, value[1], value[2])
    if len(value) != 2 or value[0] != "class" or not is_whole(value[1]):
        return False
    return value[1] in single_classes(group) and value[1] not in closing


def local_factor(group, lot):
    """The least mark that kinds made of the lot have at each class of the closing, and these kinds."""
    _need_lot(group, lot)
    closing = _closing(group.lattice, lot)
    ones = [1 if index in closing else 0 for index in range(len(group.lattice.families))]
    number = bottom_of_row(group, ones)
    return number, kinds_of_row(group, [number * one for one in ones])


def _lot_table(group, lot):
    _need_lot(group, lot)
    closing = _closing(group.lattice, lot)
    if len(closing) > MAX_LOT:
        raise TooMany(MAX_LOT)
    table = mark_table(group)
    return tuple([tuple([table[column][row] for column in closing]) for row in closing])


def lot_table(group, lot):
    """The table with the mark, at the class of the column, of the cosets of the class of the row."""
    return _lot_table(group, lot)


def lot_divisors(group, lot):
    """The elementary divisors of the lot table."""
    return elementary_divisors(_lot_table(group, lot))
