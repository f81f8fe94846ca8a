"""Promises about kinds, and papers against promises that do not hold."""

from movemarks.base.integers import is_between, is_integer, is_whole
from movemarks.errors import InvalidPromise
from movemarks.lattice.needs import need_kinds
from movemarks.mark.marks import row_of_kinds
from movemarks.move.groups import need_group

_WORDS = ("set", "free", "signs", "squares")


def _are_bounds(value):
    return all([is_integer(number) for number in value])


def _is_promise(group, value):
    if not isinstance(value, tuple):
        return False
    if len(value) == 1:
        return value[0] in _WORDS
    if len(value) == 3:
        return value[0] == "parts" and _are_bounds(value[1:])
    if len(value) != 4 or value[0] != "mark":
        return False
    return is_between(value[1], 0, len(group.lattice.families) - 1) and _are_bounds(value[2:])


def is_promise(group, value):
    """Whether the value is a promise for the group."""
    need_group(group)
    return _is_promise(group, value)


def need_promise(group, promise):
    """Raises the error for a value that is no promise for the group."""
    if not _is_promise(group, promise):
        raise InvalidPromise("not a promise for the group")


def _is_kind_against(promise, index, number):
    """Whether a member of the kinds at an index is against a promise."""
    if promise[0] == "set":
        return number < 0
    return promise[0] == "free" and index > 0 and number != 0


def _is_mark_against(promise, index, number):
    """Whether a mark at a class is against a promise."""
    if promise[0] == "signs":
        return number not in (1, -1)
    if promise[0] == "squares":
        return number not in (0, 1)
    return promise[0] == "mark" and promise[1] == index and not promise[2] <= number <= promise[3]


def _is_sum_against(promise, number):
    """Whether the sum of the kinds is against a promise."""
    return promise[0] == "parts" and not promise[1] <= number <= promise[2]


def against(group, kinds, promise):
    """A paper against a promise for the group, or None if it holds."""
    for index, many in enumerate(kinds):
        if _is_kind_against(promise, index, many):
            return ("kind", index, many)
    for index, mark in enumerate(row_of_kinds(group, kinds)):
        if _is_mark_against(promise, index, mark):
            return ("mark", index, mark)
    if _is_sum_against(promise, sum(kinds)):
        return ("parts", sum(kinds))
    return None


def _need_judged(group, kinds, promise):
    need_group(group)
    need_kinds(group, kinds)
    need_promise(group, promise)


def does_hold(group, kinds, promise):
    """Whether the promise holds of the kinds."""
    _need_judged(group, kinds, promise)
    return against(group, kinds, promise) is None


def paper_against(group, kinds, promise):
    """A paper that shows that the promise does not hold of the kinds, or None if it holds."""
    _need_judged(group, kinds, promise)
    return against(group, kinds, promise)


def _is_paper_at(group, kinds, promise, value):
    """Whether the value is a paper with the index of a class."""
    if not is_between(value[1], 0, len(kinds) - 1) or not is_whole(value[2]):
        return False
    if value[0] == "kind":
        return value[2] == kinds[value[1]] and _is_kind_against(promise, value[1], value[2])
    if value[0] != "mark" or value[2] != row_of_kinds(group, kinds)[value[1]]:
        return False
    return _is_mark_against(promise, value[1], value[2])


def is_paper_against(group, kinds, promise, value):
    """Whether the value is a right paper against the promise."""
    _need_judged(group, kinds, promise)
    if not isinstance(value, tuple):
        return False
    if len(value) == 3:
        return _is_paper_at(group, kinds, promise, value)
    if len(value) != 2 or value[0] != "parts" or not is_whole(value[1]):
        return False
    return value[1] == sum(kinds) and _is_sum_against(promise, value[1])
