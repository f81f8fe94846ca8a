"""The errors of the package."""


class MarkError(ValueError):
    """What is passed is not of the kind that is asked for."""


class InvalidMove(MarkError):
    """No move, or none of the places or of the group that are passed with it."""


class InvalidGroup(MarkError):
    """No group."""


class InvalidSubgroup(MarkError):
    """No subgroup of the group."""


class InvalidSet(MarkError):
    """No set with moves."""


class InvalidRow(MarkError):
    """No row of integers, one for each class of the group."""


class InvalidKinds(MarkError):
    """No kinds: no row of integers, one for each class of the group."""


class InvalidRatio(MarkError):
    """No ratio."""


class InvalidTable(MarkError):
    """No table."""


class InvalidPromise(MarkError):
    """No promise for the group."""


class InvalidOperation(MarkError):
    """What is passed does not fit together."""


class ParseError(MarkError):
    """A text that cannot be read from the character with this index on."""

    def __init__(self, index):
        MarkError.__init__(self, "the text cannot be read")
        self.index = index


class InvalidNumber(IndexError):
    """No integer, or none within the bounds."""

    def __init__(self, given):
        IndexError.__init__(self, "not an integer within the bounds")
        self.given = given


class UnknownName(KeyError):
    """A name that nothing has."""

    def __init__(self, wanted):
        KeyError.__init__(self, "nothing has this name")
        self.wanted = wanted


class TooMany(OverflowError):
    """More than there may be; `most` tells how many there may be."""

    def __init__(self, most):
        OverflowError.__init__(self, "more than there may be")
        self.most = most


class Refused(ArithmeticError):
    """What is asked for is not done; the reason is a tuple that begins with a word."""

    def __init__(self, reason):
        ArithmeticError.__init__(self, "refused")
        self.reason = reason


class NothingToUndo(LookupError):
    """There are not so many steps to undo."""

    def __init__(self, steps):
        LookupError.__init__(self, "there are not so many steps to undo")
        self.steps = steps
