"""The exceptions of xorbanks."""


class BankError(ValueError):
    """The base of all exceptions of the package."""

    def __init__(self, value=None):
        self.value = value


class InvalidWidth(BankError):
    """A width is not an int from 1 to 16, or not from 1 to 6 where it must be small."""

    def __init__(self, value):
        BankError.__init__(self, value)


class InvalidVectors(BankError):
    """Vectors are not a tuple of at most 64 addresses."""

    def __init__(self, value):
        BankError.__init__(self, value)


class InvalidMap(BankError):
    """A map is not a tuple of at most 16 masks."""

    def __init__(self, value):
        BankError.__init__(self, value)


class InvalidAddress(BankError):
    """An address does not fit the width."""

    def __init__(self, value):
        BankError.__init__(self, value)


class InvalidGroup(BankError):
    """A group is not an ascending tuple of 1 to 64 different addresses."""

    def __init__(self, value):
        BankError.__init__(self, value)


class InvalidGroups(BankError):
    """Groups are not a tuple of at most 20 groups."""

    def __init__(self, value):
        BankError.__init__(self, value)


class InvalidDifferences(BankError):
    """Differences are not an ascending tuple of different addresses from 1."""

    def __init__(self, value):
        BankError.__init__(self, value)


class InvalidBits(BankError):
    """Bits are not an int from 0 to 16."""

    def __init__(self, value):
        BankError.__init__(self, value)


class InvalidCount(BankError):
    """A count is out of its range."""

    def __init__(self, value):
        BankError.__init__(self, value)


class InvalidNumber(BankError):
    """A number, or a value made of numbers, is not of the kind that is asked for."""

    def __init__(self, value):
        BankError.__init__(self, value)


class InvalidName(BankError):
    """A name is not a string of 1 to 8 letters from a to z."""

    def __init__(self, value):
        BankError.__init__(self, value)


class UnknownName(BankError):
    """No group has this name."""

    def __init__(self, value):
        BankError.__init__(self, value)


class InvalidIndex(BankError):
    """No mask has this index."""

    def __init__(self, value):
        BankError.__init__(self, value)


class InvalidText(BankError):
    """A text is not one that the package writes."""

    def __init__(self, value):
        BankError.__init__(self, value)


class InvalidLine(BankError):
    """A line, or an edit, has none of the known forms."""

    def __init__(self, value):
        BankError.__init__(self, value)


class NotIncluded(BankError):
    """An address is not one of the differences."""

    def __init__(self, value):
        BankError.__init__(self, value)


class TooMany(BankError):
    """There would be more than this limit."""

    def __init__(self, value):
        BankError.__init__(self, value)


class NotInvertible(BankError):
    """Different addresses share a bank, or some banks are not reached."""

    def __init__(self):
        BankError.__init__(self)


class Dependent(BankError):
    """Masks are not independent."""

    def __init__(self):
        BankError.__init__(self)


class NothingToUndo(BankError):
    """No change is left that can be taken back."""

    def __init__(self):
        BankError.__init__(self)


class NoLayout(BankError):
    """There is no layout, or something else stands in its place."""

    def __init__(self):
        BankError.__init__(self)
