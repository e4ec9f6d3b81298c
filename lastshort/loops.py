"""Loops: their texts, their words, and how they are executed."""

from lastshort.checks import check_replies, check_size, is_integer_between
from lastshort.errors import InvalidPlace, InvalidText, NotALoop
from lastshort.executing import Execution
from lastshort.limits import MOST_ENDING, MOST_ROUND

TESTS = ("empty", "some", "short", "full", "told", "open", "rest", "bare")
ROUND_STEPS = ("add", "hand", "cut", "flush", "stop", "again")
ENDING_STEPS = ("hand", "cut", "flush")
BAR = " | "


def words_of(text):
    """Return the words of the round and those of the ending, which may still be wrong ones."""
    head, bar, tail = text.partition(BAR)
    # With a bar an ending must follow: the text behind it has at least one word, even if that is the empty one.
    return tuple(head.split(" ")), tuple(tail.split(" ")) if bar else ()


def text_of(first_words, last_words):
    text = " ".join(first_words)
    return text + BAR + " ".join(last_words) if last_words else text


def order_of(word):
    """Take a word apart into its test, which is empty if there is none, and its step."""
    test, colon, step = word.partition(":")
    return (test, step) if colon else ("", word)


def is_word(word, steps):
    test, colon, step = word.partition(":")
    return (test in TESTS and step in steps) if colon else word in steps


def are_words(words, steps):
    return all([is_word(word, steps) for word in words])


def is_round(words):
    if words[0] != "ask" or len(words) > MOST_ROUND:
        return False
    adding = [word for word in words if order_of(word)[1] == "add"]
    return len(adding) <= 1 and are_words(words[1:], ROUND_STEPS)


def is_ending(words):
    return len(words) <= MOST_ENDING and are_words(words, ENDING_STEPS)


def check_loop(loop):
    if not isinstance(loop, Loop):
        raise NotALoop(loop)


class Loop:
    """A loop that reads a source in pieces: a round of words, and an ending."""

    def __init__(self, text):
        if not isinstance(text, str):
            raise InvalidText(text)
        first_words, last_words = words_of(text)
        if not is_round(first_words) or not is_ending(last_words):
            raise InvalidText(text)
        self.text = text
        self.round = first_words
        self.ending = last_words
        self.round_orders = tuple([order_of(word) for word in first_words])
        self.ending_orders = tuple([order_of(word) for word in last_words])

    def __len__(self):
        return len(self.round + self.ending)

    def __eq__(self, other):
        return isinstance(other, Loop) and self.text == other.text

    def __str__(self):
        return str(self.text)

    def __repr__(self):
        return f"Loop({self.text})"

    def without(self, place):
        """Return the loop without the word at this place."""
        if not is_integer_between(place, 1, len(self) - 1):
            raise InvalidPlace(place)
        many = len(self.round)
        if place < many:
            return Loop(text_of(self.round[:place] + self.round[place + 1:], self.ending))
        place -= many
        return Loop(text_of(self.round, self.ending[:place] + self.ending[place + 1:]))

    def run(self, size, replies):
        """Execute the loop as far as the replies reach."""
        check_size(size)
        check_replies(replies, size)
        work = self.work_through(size, replies)
        return tuple(work.handed), work.asked, work.over

    def work_through(self, size, replies):
        """Return this loop at work behind these replies, or behind those up to its stop."""
        work = self.execution(size, ())
        first = 0
        for count, told in replies:
            if work.over:
                break
            work.answer(tuple(range(first, first + count)), told)
            first += count
        return work

    def execution(self, size, kept):
        """Return this loop at work, with these items in its rest, before its next question."""
        return Execution(self.round_orders, self.ending_orders, size, kept)
