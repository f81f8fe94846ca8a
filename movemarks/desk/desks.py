"""Desks: kinds that are changed by deeds, and the promises that they keep."""

from movemarks.base.integers import is_between, is_integer
from movemarks.desk.promises import against, is_promise, need_promise
from movemarks.errors import InvalidNumber, InvalidOperation, NothingToUndo, Refused, TooMany, UnknownName
from movemarks.lattice.needs import is_row, need_kinds
from movemarks.made.sums import product_kinds
from movemarks.mark.marks import row_of_kinds
from movemarks.move.groups import need_group

MAX_PROMISES = 8
MAX_DEEDS = 20


def _is_deed(group, value):
    if not isinstance(value, tuple) or len(value) != 2:
        return False
    if value[0] in ("plus", "less", "times"):
        return is_row(group, value[1])
    if value[0] == "many":
        return is_integer(value[1])
    return value[0] == "without" and is_between(value[1], 0, len(group.lattice.families) - 1)


def _need_deeds(group, deeds):
    if not isinstance(deeds, tuple) or not 1 <= len(deeds) <= MAX_DEEDS:
        raise InvalidOperation("not a tuple of 1 to 20 deeds")
    if not all([_is_deed(group, deed) for deed in deeds]):
        raise InvalidOperation("a member is no deed for the group")


def _behind_deed(group, kinds, deed):
    """The kinds behind one deed, with any number of digits."""
    word, given = deed
    if word == "plus":
        return tuple([many + more for many, more in zip(kinds, given)])
    if word == "less":
        return tuple([many - fewer for many, fewer in zip(kinds, given)])
    if word == "times":
        return product_kinds(group, kinds, given)
    if word == "many":
        return tuple([many * given for many in kinds])
    return tuple([0 if index == given else many for index, many in enumerate(kinds)])


def _behind(group, kinds, deeds):
    """The kinds behind all deeds; the error for the first one that fails."""
    found = kinds
    for index, deed in enumerate(deeds):
        found = _behind_deed(group, found, deed)
        if not is_row(group, found):
            raise Refused(("deed", index, "great"))
    return found


def _need_kept(group, kinds, promise):
    """Raises the error for a promise that does not hold of the kinds."""
    paper = against(group, kinds, promise)
    if paper is not None:
        raise Refused(("broken", promise, paper))


def _spaced(kinds):
    return " ".join([str(many) for many in kinds])


class Desk:
    """Kinds of a group, and promises that hold of them; all earlier versions are kept."""

    def __init__(self, group, kinds):
        need_group(group)
        need_kinds(group, kinds)
        self._group = group
        self._kinds = kinds
        self._promises = ()
        self._earlier = ()

    @property
    def group(self):
        """The group."""
        return self._group

    @property
    def kinds(self):
        """The kinds."""
        return self._kinds

    @property
    def marks(self):
        """The mark row of the kinds."""
        return row_of_kinds(self._group, self._kinds)

    @property
    def promises(self):
        """The promises, in the order in which they were made."""
        return self._promises

    @property
    def version(self):
        """How many changes of kinds or promises lie behind."""
        return len(self._earlier)

    def _go_on(self, kinds, promises):
        """Makes the next version, if something changes; returns the number of the version."""
        if kinds != self._kinds or promises != self._promises:
            self._earlier = self._earlier + ((self._kinds, self._promises),)
            self._kinds = kinds
            self._promises = promises
        return len(self._earlier)

    def do(self, deeds):
        """Does deeds in their order; returns the version."""
        _need_deeds(self._group, deeds)
        kinds = _behind(self._group, self._kinds, deeds)
        for promise in self._promises:
            _need_kept(self._group, kinds, promise)
        return self._go_on(kinds, self._promises)

    def would(self, deeds):
        """The tuple of the promises that do not hold behind deeds; nothing is changed."""
        _need_deeds(self._group, deeds)
        kinds = _behind(self._group, self._kinds, deeds)
        return tuple([promise for promise in self._promises if against(self._group, kinds, promise) is not None])

    def promise(self, promise):
        """Puts a promise behind the others; returns whether it is new."""
        need_promise(self._group, promise)
        _need_kept(self._group, self._kinds, promise)
        if promise in self._promises:
            return False
        if len(self._promises) == MAX_PROMISES:
            raise TooMany(MAX_PROMISES)
        self._go_on(self._kinds, self._promises + (promise,))
        return True

    def drop(self, promise):
        """Takes a promise out; returns the version."""
        need_promise(self._group, promise)
        if promise not in self._promises:
            raise UnknownName(promise)
        return self._go_on(self._kinds, tuple([other for other in self._promises if other != promise]))

    def undo(self, count=1):
        """Goes so many versions back for good; returns the version."""
        if not is_integer(count) or count < 1:
            raise InvalidNumber(count)
        if count > len(self._earlier):
            raise NothingToUndo(count)
        back = len(self._earlier) - count
        self._kinds, self._promises = self._earlier[back]
        self._earlier = self._earlier[:back]
        return back

    def at(self, version):
        """A new desk with the group, kinds and promises of a version."""
        if not is_between(version, 0, len(self._earlier)):
            raise InvalidNumber(version)
        versions = self._earlier + ((self._kinds, self._promises),)
        kinds, promises = versions[version]
        desk = Desk(self._group, kinds)
        desk._promises = promises
        return desk

    def __len__(self):
        return len(self._promises)

    def __iter__(self):
        return iter(self._promises)

    def __contains__(self, value):
        return is_promise(self._group, value) and value in self._promises

    def __eq__(self, other):
        if not isinstance(other, Desk):
            return False
        return self._group == other._group and self._kinds == other._kinds and self._promises == other._promises

    def __str__(self):
        return f"desk of kinds {_spaced(self._kinds)}, {len(self._promises)} promises"
