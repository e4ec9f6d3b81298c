"""The errors of the package.

An error keeps the very argument that it was created with, whatever that is.
"""


class InputError(ValueError):
    """An argument is not as its entry demands."""


class NotALoop(InputError):
    """Something else was passed where a Loop belongs."""

    def __init__(self, value):
        self.value = value


class NotASource(InputError):
    """Something else was passed where a Source belongs."""

    def __init__(self, value):
        self.value = value


class NotAChain(InputError):
    """Something else was passed where a Chain belongs."""

    def __init__(self, value):
        self.value = value


class NotAReading(InputError):
    """Something else was passed where a Reading belongs."""

    def __init__(self, value):
        self.value = value


class InvalidText(InputError):
    """This is not the text of a loop or of a chain."""

    def __init__(self, value):
        self.value = value


class InvalidWord(InputError):
    """This is not one of the words for a kind of sources."""

    def __init__(self, value):
        self.value = value


class InvalidItems(InputError):
    """This is not a number of items."""

    def __init__(self, value):
        self.value = value


class InvalidSize(InputError):
    """This is not a size."""

    def __init__(self, value):
        self.value = value


class InvalidName(InputError):
    """This is not the name of a property."""

    def __init__(self, value):
        self.value = value


class InvalidCount(InputError):
    """This is not the count of a reply."""

    def __init__(self, value):
        self.value = value


class InvalidTold(InputError):
    """This is not a bool."""

    def __init__(self, value):
        self.value = value


class InvalidPlace(InputError):
    """This is not a place."""

    def __init__(self, value):
        self.value = value


class InvalidRow(InputError):
    """A console does not know this row."""

    def __init__(self, value):
        self.value = value


class InvalidReplies(InputError):
    """This is not a tuple of replies; index is the first wrong one, or None."""

    def __init__(self, index):
        self.index = index


class InvalidDeeds(InputError):
    """These are not deeds; index is the first wrong one, or None."""

    def __init__(self, index):
        self.index = index


class StateError(LookupError):
    """A reading is not in a state for this."""


class Stopped(StateError):
    """The loop has stopped."""


class NothingToUndo(StateError):
    """No reply stands."""


class Busy(StateError):
    """The reading is in the middle of feed_all."""


class SizeError(ArithmeticError):
    """Something would grow beyond its limit."""


class TooManyReplies(SizeError):
    """There are as many replies as the limit lets."""

    def __init__(self, limit):
        self.limit = limit
