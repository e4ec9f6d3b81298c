"""A console, which answers rows of text with a reading."""

from lastshort.errors import InputError, InvalidRow, NothingToUndo, SizeError, StateError
from lastshort.readings import Reading

FEED = "feed "
TOLD = "!"
REFUSED = "refused"


def is_count(text):
    # Other scripts have digits too, which Python would read as numbers.
    if not text.isascii() or not text.isdigit():
        return False
    return text == "0" or not text.startswith("0")


def reply_of(row):
    """Return the reply that a row gives, or None if it gives none."""
    digits = row.removeprefix(FEED).removesuffix(TOLD)
    if not row.startswith(FEED) or not is_count(digits):
        return None
    return int(digits), row.endswith(TOLD)


def items_text(items):
    return ",".join([str(item) for item in items]) if items else "-"


def pieces_text(pieces):
    return " ".join([items_text(items) for items in pieces]) if pieces else "none"


class Console:
    """It has a reading, gives it the replies that rows bring, and tells what came of them."""

    def __init__(self, loop, size):
        self.reading = Reading(loop, size)

    def say(self, row):
        """Return the answer to a row."""
        if not isinstance(row, str):
            raise InvalidRow(row)
        if row == "undo":
            return self.answer_undo()
        if row == "rest":
            return items_text(self.reading.rest)
        if row == "state":
            return "stopped" if self.reading.stopped else "open"
        reply = reply_of(row)
        if reply is None:
            raise InvalidRow(row)
        return self.answer_feed(reply)

    def answer_undo(self):
        try:
            self.reading.undo()
        except NothingToUndo:
            return REFUSED
        return "ok"

    def answer_feed(self, reply):
        count, told = reply
        try:
            return pieces_text(self.reading.feed(count, told))
        except (InputError, StateError, SizeError):
            return REFUSED
