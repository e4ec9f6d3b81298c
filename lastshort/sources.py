"""Kinds of sources, and the replies that they can give."""

from lastshort.checks import check_items, check_replies, check_size
from lastshort.errors import InvalidWord, NotASource
from lastshort.limits import MOST_ITEMS

AMOUNTS = ("exact", "short")
PATIENCES = ("prompt", "waiting")
ENDS = ("empty", "with", "behind")


def check_word(word, words):
    if not isinstance(word, str) or word not in words:
        raise InvalidWord(word)


def check_source(source):
    if not isinstance(source, Source):
        raise NotASource(source)


class Source:
    """A kind of sources, described by three words."""

    def __init__(self, amount, patience, end):
        check_word(amount, AMOUNTS)
        check_word(patience, PATIENCES)
        check_word(end, ENDS)
        self.amount = amount
        self.patience = patience
        self.end = end

    def __eq__(self, other):
        return (isinstance(other, Source) and self.amount == other.amount
                and self.patience == other.patience and self.end == other.end)

    def __str__(self):
        return f"{self.amount} {self.patience} {self.end}"

    def __repr__(self):
        return f"Source({self.amount} {self.patience} {self.end})"

    def allows(self, items, size, replies):
        """Tell whether a source of this kind can begin with these replies."""
        check_items(items)
        check_size(size)
        check_replies(replies, MOST_ITEMS)
        left = items
        for count, told in replies:
            if not self.can_hand_out(left, size, count) or told != self.must_tell(left, left - count):
                return False
            left -= count
        return True

    def can_hand_out(self, left, size, count):
        """Tell whether this many items can come while so many are left."""
        # A waiting source may pause as often as it likes here: only a whole run has an end of its pauses.
        if count == 0:
            return left == 0 or self.patience == "waiting"
        if self.amount == "exact":
            return count == min(size, left)
        return count <= min(size, left)

    def must_tell(self, before, after):
        """Return what told is in a reply before and after which so many items are left."""
        if self.end == "empty":
            return False
        if self.end == "behind":
            return before == 0
        # This holds for the reply with the last item, and for all behind it.
        return after == 0
