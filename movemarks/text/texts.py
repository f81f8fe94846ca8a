"""Texts of moves, groups, rows and kinds, written and read."""

from movemarks.base.integers import is_integer, need_between
from movemarks.errors import InvalidKinds, InvalidMove, InvalidRow, ParseError
from movemarks.mark.marks import mark_table
from movemarks.move.groups import Group, need_group
from movemarks.move.moves import cycles, move_of_cycles, need_places

MOST_SIGNS = 3000
MOST_MEMBERS = 60

_DIGITS = "0123456789"
_MOST_DIGITS = 60


def _need_text(text):
    if not isinstance(text, str) or len(text) > MOST_SIGNS:
        raise ParseError(0)


def _is_at(text, at, sign):
    """Whether a sign stands at an index, which can be the length of the text."""
    return text[at:at + 1] == sign


def _behind(text, at, sign):
    """The index behind a sign that must stand at an index."""
    if not _is_at(text, at, sign):
        raise ParseError(at)
    return at + 1


def _is_digit_at(text, at):
    return at < len(text) and text[at] in _DIGITS


def _read_plain(text, at):
    """The plain integer that must stand at an index, and the index behind it."""
    if not _is_digit_at(text, at):
        raise ParseError(at)
    most = at + 1 if _is_at(text, at, "0") else at + _MOST_DIGITS
    end = at + 1
    # A further digit is left for what must follow, and nothing that follows an integer begins with a digit.
    while end < most and _is_digit_at(text, end):
        end += 1
    return int(text[at:end]), end


def _read_less(text, at):
    """Whether a `-` stands at an index, and the index behind it; a 0 must not follow directly."""
    if not _is_at(text, at, "-"):
        return False, at
    if _is_at(text, at + 1, "0"):
        raise ParseError(at + 1)
    return True, at + 1


def _read_ring(text, at):
    """The ring of at least two places that must stand at an index, and the index behind it."""
    place, end = _read_plain(text, _behind(text, at, "("))
    ring = [place]
    while len(ring) < 2 or _is_at(text, end, " "):
        place, end = _read_plain(text, _behind(text, end, " "))
        ring.append(place)
    return tuple(ring), _behind(text, end, ")")


def _read_rings(text, at):
    """The rings of the move that must stand at an index, and the index behind it."""
    if _is_at(text, at, "(") and _is_at(text, at + 1, ")"):
        return (), at + 2
    ring, end = _read_ring(text, at)
    rings = [ring]
    while _is_at(text, end, "("):
        ring, end = _read_ring(text, end)
        rings.append(ring)
    return tuple(rings), end


def _move_of(places, rings):
    """The move with some rings; the error if they name what is no place, or one place twice."""
    named = [place for ring in rings for place in ring]
    if not all([place < places for place in named]) or len(set(named)) != len(named):
        raise InvalidMove("a place is not there, or stands twice")
    return move_of_cycles(places, rings)


def write_move(move):
    """The text of a move."""
    rings = [ring for ring in cycles(move) if len(ring) > 1]
    if len(rings) == 0:
        return "()"
    return "".join(["(" + " ".join([str(place) for place in ring]) + ")" for ring in rings])


def read_move(text, places):
    """The move of so many places with a text."""
    _need_text(text)
    need_places(places)
    rings, end = _read_rings(text, 0)
    if end < len(text):
        raise ParseError(end)
    return _move_of(places, rings)


def write_group(group):
    """The text of a group."""
    need_group(group)
    return f"{group.places}:" + "".join([" " + write_move(maker) for maker in group.makers])


def read_group(text):
    """The group with a text."""
    _need_text(text)
    places, end = _read_plain(text, 0)
    end = _behind(text, end, ":")
    told = []
    while end < len(text):
        rings, end = _read_rings(text, _behind(text, end, " "))
        told.append(rings)
    need_places(places)
    return Group(places, tuple([_move_of(places, rings) for rings in told]))


def _are_members(value):
    """Whether the value is a tuple of 1 to 60 integers."""
    if not isinstance(value, tuple) or not 1 <= len(value) <= MOST_MEMBERS:
        return False
    return all([is_integer(member) for member in value])


def write_row(row):
    """The text of a row."""
    if not _are_members(row):
        raise InvalidRow("not a tuple of 1 to 60 integers")
    return ",".join([str(member) for member in row])


def _read_signed(text, at):
    """The signed integer that must stand at an index, and the index behind it."""
    is_less, start = _read_less(text, at)
    number, end = _read_plain(text, start)
    return (-number if is_less else number), end


def read_row(text):
    """The tuple of integers with a text."""
    _need_text(text)
    number, end = _read_signed(text, 0)
    row = [number]
    while end < len(text):
        number, end = _read_signed(text, _behind(text, end, ","))
        row.append(number)
    if len(row) > MOST_MEMBERS:
        raise InvalidRow("more than 60 integers")
    return tuple(row)


def _term(index, many):
    """The text of a term, without its sign."""
    return f"[{index}]" if abs(many) == 1 else f"{abs(many)}[{index}]"


def write_kinds(kinds):
    """The text of kinds."""
    if not _are_members(kinds):
        raise InvalidKinds("not a tuple of 1 to 60 integers")
    text = ""
    for index, many in enumerate(kinds):
        if many != 0 and text == "":
            text = ("-" if many < 0 else "") + _term(index, many)
        elif many != 0:
            text = text + (" - " if many < 0 else " + ") + _term(index, many)
    return "0" if text == "" else text


def _read_term(text, at):
    """The index and the integer of the term that must stand at an index, and the index behind it."""
    many, end = 1, at
    if not _is_at(text, at, "["):
        many, end = _read_plain(text, at)
    index, end = _read_plain(text, _behind(text, end, "["))
    return index, many, _behind(text, end, "]")


def _read_terms(text):
    """The list of the pairs of an index and of its integer that a text has, in their order."""
    is_less, start = _read_less(text, 0)
    index, many, end = _read_term(text, start)
    terms = [(index, -many if is_less else many)]
    while end < len(text):
        end = _behind(text, end, " ")
        is_less = _is_at(text, end, "-")
        end = _behind(text, end, "-" if is_less else "+")
        index, many, end = _read_term(text, _behind(text, end, " "))
        terms.append((index, -many if is_less else many))
    return terms


def read_kinds(text, length):
    """The tuple of so many integers with a text."""
    _need_text(text)
    need_between(length, 1, MOST_MEMBERS)
    terms = _read_terms(text) if text != "0" else []
    kinds = [0 for _ in range(length)]
    for index, many in terms:
        if index >= length:
            raise InvalidKinds("an index is not there")
        kinds[index] = kinds[index] + many
    if not all([is_integer(many) for many in kinds]):
        raise InvalidKinds("a sum has more than sixty digits")
    return tuple(kinds)


def table_lines(group):
    """The lines of the mark table, each with the size of the subgroups of its class ahead."""
    need_group(group)
    for body, row in zip(group.lattice.first_bodies(), mark_table(group)):
        yield f"{len(body)}:" + "".join([f" {number}" for number in row])
