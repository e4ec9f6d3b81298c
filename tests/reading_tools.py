"""What the tests of readings share."""

import unittest

from lastshort.errors import NothingToUndo
from lastshort.loops import Loop
from lastshort.readings import Reading
from walking import Worker

NO, YES = False, True
COLLECT = "ask add cut told:stop | rest:flush"
HAND = "ask hand told:stop"


def state_of(reading):
    """Everything that can be seen of a reading."""
    return (reading.loop, reading.size, reading.replies, reading.pieces, reading.rest, reading.stopped, reading.busy,
            len(reading), repr(reading), bool(reading))


def plain_state(text, size, replies, busy=False):
    """The same, by a plain run; the loop must not stop before the last reply."""
    worker, first = Worker(text, size), 0
    for count, told in replies:
        assert not worker.stopped
        worker.round(range(first, first + count), told)
        first += count
    many = len(replies)
    return (Loop(text), size, tuple(replies), tuple(worker.handed_on), tuple(worker.rest), worker.stopped, busy,
            many, f"Reading({many} replies)", many > 0)


def fed(text, size, replies):
    reading = Reading(Loop(text), size)
    for count, told in replies:
        reading.feed(count, told)
    return reading


def undo_all(reading):
    """Undo everything, and return how often that was possible."""
    many = 0
    while len(reading):
        reading.undo()
        many += 1
    return many


def deeds_of(*replies):
    return tuple(("feed", count, told) for count, told in replies)


class Boom(Exception):
    pass


class HarderBoom(BaseException):
    pass


class Checks(unittest.TestCase):
    def check_state(self, reading, text, size, replies, busy=False):
        self.assertEqual(state_of(reading), plain_state(text, size, replies, busy))

    def check_unchanged(self, error, attribute, wrong, reading, act):
        """See that this error comes, and that the reading is as it was, with what can be undone."""
        before = state_of(reading)
        with self.assertRaises(error) as caught:
            act()
        self.assertIs(type(caught.exception), error)
        if attribute is not None:
            self.assertIs(getattr(caught.exception, attribute), wrong)
        self.assertEqual(state_of(reading), before)

    def check_back(self, reading, replies):
        """See that a reading of COLLECT with the size 3 has these replies, and that each of them can be undone."""
        self.check_state(reading, COLLECT, 3, replies)
        for many in range(len(replies) - 1, -1, -1):
            reading.undo()
            self.check_state(reading, COLLECT, 3, replies[:many])
        self.check_unchanged(NothingToUndo, None, None, reading, reading.undo)
