"""Readings, which execute a loop reply by reply, and blocks after which a reading is as it was."""

from lastshort.checks import check_size, is_integer_between
from lastshort.errors import (
    Busy, InvalidCount, InvalidDeeds, InvalidTold, NotAReading, NothingToUndo, Stopped, TooManyReplies)
from lastshort.limits import MOST_REPLIES
from lastshort.loops import check_loop


class Moment:
    """What a reading is between two replies. It is never changed, so going back to it is enough to undo anything."""

    def __init__(self, before, given, handed, kept, over):
        self.before = before
        self.given = given
        self.handed = handed
        self.kept = kept
        self.over = over


class Layer:
    """What a manager has to go back to, with what it has to go back to afterwards if it was entered within itself."""

    def __init__(self, moment, under):
        self.moment = moment
        self.under = under


class Trial:
    """A context manager that sets a reading back to the replies that it had when the block was entered."""

    def __init__(self, reading):
        self.reading = reading
        self.layer = None

    def __enter__(self):
        self.layer = Layer(self.reading.moment, self.layer)
        return self.reading

    def __exit__(self, kind, value, trace):
        self.reading.moment = self.layer.moment
        self.layer = self.layer.under


def is_deed(value):
    # Count and told are looked at when the turn of the deed has come.
    return isinstance(value, tuple) and len(value) == 3 and isinstance(value[0], str) and value[0] == "feed"


def check_deeds(deeds):
    for index, deed in enumerate(deeds):
        if not is_deed(deed):
            raise InvalidDeeds(index)


class Reading:
    """A loop that is executed reply by reply."""

    def __init__(self, loop, size):
        check_loop(loop)
        check_size(size)
        self.loop = loop
        self.size = size
        self.busy = False
        self.moment = Moment(None, (), (), (), False)

    @property
    def replies(self):
        return self.moment.given

    @property
    def pieces(self):
        return self.moment.handed

    @property
    def rest(self):
        return self.moment.kept

    @property
    def stopped(self):
        return self.moment.over

    def __len__(self):
        return len(self.moment.given)

    def __repr__(self):
        return f"Reading({len(self.moment.given)} replies)"

    def feed(self, count, told):
        """Give the loop the next reply, and return the pieces that were handed on because of it."""
        self.check_free()
        return self.take(count, told)

    def feed_all(self, *deeds, watch=None):
        """Give several replies, or none of them if one is not possible."""
        self.check_free()
        check_deeds(deeds)
        back = self.moment
        self.busy = True
        try:
            for place, deed in enumerate(deeds):
                self.take(deed[1], deed[2])
                if watch is not None:
                    watch(self, place)
            back = None
        finally:
            self.busy = False
            if back is not None:
                self.moment = back

    def undo(self):
        """Reverse the last reply that stands."""
        self.check_free()
        if self.moment.before is None:
            raise NothingToUndo()
        self.moment = self.moment.before

    def trial(self):
        """Return a context manager for blocks behind which the reading has the same replies as before."""
        self.check_free()
        return Trial(self)

    def check_free(self):
        if self.busy:
            raise Busy()

    def check_reply(self, count, told):
        if not is_integer_between(count, 0, self.size):
            raise InvalidCount(count)
        if not isinstance(told, bool):
            raise InvalidTold(told)
        if self.stopped:
            raise Stopped()
        if len(self) >= MOST_REPLIES:
            raise TooManyReplies(MOST_REPLIES)

    def take(self, count, told):
        """Execute the round of this reply, also during `feed_all`."""
        self.check_reply(count, told)
        now = self.moment
        first = sum([reply[0] for reply in now.given])
        work = self.loop.execution(self.size, now.kept)
        work.answer(tuple(range(first, first + count)), told)
        handed = tuple(work.handed)
        self.moment = Moment(now, now.given + ((count, told),), now.handed + handed, work.kept, work.over)
        return handed


def within(trial, act):
    """Call `act` with the reading in a block of this manager, and return its result."""
    with trial as reading:
        return act(reading)


def attempt(reading, act):
    """Call `act` with the reading, set the replies back, and return the result."""
    if not isinstance(reading, Reading):
        raise NotAReading(reading)
    return within(reading.trial(), act)
