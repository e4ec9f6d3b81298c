import itertools
import random
import unittest

from lastshort.console import Console
from lastshort.errors import InvalidRow, InvalidSize, NotALoop
from lastshort.loops import Loop
from walking import Worker, random_text
from wrong import ANYTHING, NO_LOOPS, NO_SIZES, check_error

COLLECT = "ask add cut told:stop | rest:flush"
HAND = "ask hand told:stop"


def console_with(text, size, *rows):
    console = Console(Loop(text), size)
    for row in rows:
        console.say(row)
    return console


def shown(items):
    return ",".join(map(str, items)) or "-"


class PlainConsole:
    """The same with a plain list of replies, which are executed anew for each row."""

    def __init__(self, text, size):
        self.text, self.size, self.replies = text, size, []

    def worker(self):
        worker, first = Worker(self.text, self.size), 0
        for count, told in self.replies:
            worker.round(range(first, first + count), told)
            first += count
        return worker

    def say(self, row):
        before = self.worker()
        if row == "rest":
            return shown(before.rest)
        if row == "state":
            return "stopped" if before.stopped else "open"
        if row == "undo":
            return "ok" if self.replies and self.replies.pop() else "refused"
        count, told = int(row[5:].rstrip("!")), row.endswith("!")
        if count > self.size or before.stopped or len(self.replies) == 100:
            return "refused"
        self.replies.append((count, told))
        handed = self.worker().handed_on[len(before.handed_on):]
        return " ".join(shown(piece) for piece in handed) or "none"


class ConsoleTest(unittest.TestCase):
    def answers(self, console, *pairs):
        for row, expected in pairs:
            self.assertEqual(console.say(row), expected, row)

    def test_example_of_the_document(self):
        console = Console(Loop(COLLECT), 2)
        self.assertEqual(
            [console.say("feed 1"), console.say("feed 2"), console.say("rest"), console.say("feed 0!"),
             console.say("state"), console.say("feed 1"), console.say("undo"), console.say("feed 3")],
            ["none", "0,1", "2", "2", "stopped", "refused", "ok", "refused"])

    def test_feed(self):
        self.answers(Console(Loop(HAND), 3), ("feed 3", "0,1,2"), ("feed 0", "-"), ("feed 1", "3"), ("feed 2!", "4,5"))
        # Several pieces, empty ones among them.
        self.answers(Console(Loop("ask hand add flush flush told:stop | hand"), 2),
                     ("feed 2", "0,1 0,1 -"), ("feed 0", "- - -"), ("feed 1!", "2 2 - 2"))
        self.answers(Console(Loop("ask add empty:cut"), 2),
                     ("feed 2", "none"), ("feed 1", "none"), ("feed 2", "none"), ("rest", "0,1,2,3,4"),
                     ("feed 0", "0,1 2,3"), ("rest", "4"))
        self.answers(Console(Loop("ask"), 1), ("feed 0", "none"), ("feed 1", "none"), ("feed 1!", "none"))

    def test_refused_replies(self):
        console = console_with(COLLECT, 3, "feed 2")
        for row in ("feed 4", "feed 4!", "feed 5", "feed 1000", "feed 1001", "feed 99999999999999999999",
                    "feed " + "9" * 495, "feed " + "9" * 494 + "!", "feed 10000000000000000000000!"):
            self.answers(console, (row, "refused"), ("rest", "0,1"), ("state", "open"))
        self.answers(console, ("feed 3!", "0,1,2 3,4"), ("state", "stopped"))
        for row in ("feed 0", "feed 0!", "feed 3", "feed 4"):
            self.answers(console, (row, "refused"), ("state", "stopped"), ("rest", "-"))
        self.answers(console, ("undo", "ok"), ("rest", "0,1"), ("undo", "ok"), ("undo", "refused"), ("rest", "-"))

    def test_undo(self):
        console = Console(Loop(COLLECT), 2)
        self.answers(console, ("undo", "refused"), ("undo", "refused"), ("feed 1", "none"), ("undo", "ok"),
                     ("rest", "-"), ("undo", "refused"), ("feed 2!", "0,1"), ("state", "stopped"), ("undo", "ok"),
                     ("state", "open"))

    def test_rest_and_state(self):
        console = Console(Loop("ask add told:stop | bare:hand"), 1000)
        self.answers(console, ("rest", "-"), ("state", "open"), ("feed 12", "none"), ("rest", shown(range(12))),
                     ("state", "open"), ("feed 1!", "none"), ("rest", shown(range(13))), ("state", "stopped"))

    def test_the_hundred_and_first_reply(self):
        console = Console(Loop(HAND), 2)
        for many in range(100):
            self.answers(console, ("feed 1", str(many)))
        for row in ("feed 1", "feed 0", "feed 2!", "feed 3"):
            self.answers(console, (row, "refused"), ("state", "open"))
        self.answers(console, ("undo", "ok"), ("feed 2!", "99,100"), ("state", "stopped"), ("feed 0", "refused"))
        for _ in range(100):
            self.answers(console, ("undo", "ok"))
        self.answers(console, ("undo", "refused"))

    def test_sizes(self):
        for size in (1, 2, 9, 10, 99, 100, 999, 1000):
            for count in (0, 1, size - 1, size):
                self.answers(Console(Loop(HAND), size), (f"feed {count}", shown(range(count))))
                self.answers(Console(Loop(HAND), size), (f"feed {count}!", shown(range(count))), ("state", "stopped"))
            self.answers(Console(Loop(HAND), size), (f"feed {size + 1}", "refused"), (f"feed {size + 1}!", "refused"))

    def test_answers_are_strings(self):
        console = Console(Loop(COLLECT), 2)
        for row in ("feed 1", "feed 2", "feed 3", "rest", "state", "undo"):
            self.assertIs(type(console.say(row)), str)

    def test_by_keyword(self):
        console = Console(size=2, loop=Loop(COLLECT))
        self.assertEqual(console.say(row="feed 2"), "0,1")

    def test_several_consoles(self):
        loop = Loop(COLLECT)
        one, two = Console(loop, 2), Console(loop, 2)
        one.say("feed 1")
        self.answers(two, ("rest", "-"), ("undo", "refused"))
        self.assertTrue(one)
        self.assertTrue(one == one and one != two)

    def test_against_a_plain_console(self):
        chance = random.Random(81)
        for _ in range(200):
            text, size = chance.choice([COLLECT, HAND, random_text(chance, 6, 3)]), chance.randint(1, 4)
            console, plain = Console(Loop(text), size), PlainConsole(text, size)
            for _ in range(25):
                feed = f"feed {chance.randint(0, size + 1)}" + "!" * (chance.random() < 0.2)
                row = chance.choice([feed, feed, feed, "undo", "rest", "state"])
                self.assertEqual(console.say(row), plain.say(row), (text, size, row))

    def test_the_constructor(self):
        for wrong in NO_LOOPS:
            for size in (1, 0, None, []):
                check_error(self, NotALoop, "value", wrong, Console, loop=wrong, size=size)
        for wrong in NO_SIZES:
            check_error(self, InvalidSize, "value", wrong, Console, loop=Loop("ask"), size=wrong)


OTHER_DIGITS = ("\u0661", "\u0967", "\uff11", "\u00b9", "\u00b2", "\u2460", "\u4e00", "\U0001d7cf", "\u2163", "\u00bd")


class RowsTest(unittest.TestCase):
    def check(self, wrong):
        """See that the row is not taken, and that everything is as it was."""
        for rows in ((), ("feed 1",), ("feed 1", "feed 2!")):
            console = console_with(COLLECT, 3, *rows)
            check_error(self, InvalidRow, "value", wrong, console.say, row=wrong)
            plain = PlainConsole(COLLECT, 3)
            for row in rows:
                plain.say(row)
            for row in ("rest", "state", "feed 0", "undo", "undo", "undo", "undo", "feed 1"):
                self.assertEqual(console.say(row), plain.say(row), (wrong, row))

    def test_wrong_rows(self):
        for row in ("", " ", "\n", "feed", "feed ", "feed!", "feed !", "feed 1 !", "feed 1!!", "feed !1", "feed 1!1",
                    "feed1", "feed  1", "feed\t1", "feed\n1", "feed 1 ", " feed 1", "feed 1\n", "\nfeed 1", "feed 1! ",
                    "feed 1!\n", "Feed 1", "FEED 1", "fed 1", "feeds 1", "feed one", "feed 1,2", "feed 1.", "feed 1.0",
                    "feed 1e0", "feed 1_0", "feed 0x1", "feed (1)", "feed 1 2", "feed 1 True", "feed 1, False",
                    "feed -", "feed +", "feed feed 1", "feed 1 feed 1", "feed 1?", "undo ", " undo", "undo\n", "\nundo",
                    "Undo", "UNDO", "undo 1", "undo!", "undone", "rest ", " rest", "rest\n", "Rest", "rest 0", "rest!",
                    "state ", " state", "state\n", "State", "states", "state!", "pieces", "replies", "stop", "stopped",
                    "open", "none", "ok", "-", "refused", "help", "quit", "1", "1!", "!", "say", "undo undo",
                    "rest state", "x" * 500, " " * 500, "feed " * 100):
            with self.subTest(row=row[:20]):
                self.check(row)

    def test_a_space_or_a_line_feed_more(self):
        rows = ("feed 1", "feed 2!", "feed 0", "undo", "rest", "state")
        for row, more in itertools.product(rows, (" ", "\n", "\r", "\t")):
            for place in range(len(row) + 1):
                self.check(row[:place] + more + row[place:])

    def test_numbers_that_are_none(self):
        for digits in ("00", "01", "001", "0" * 495, "010", "-0", "-1", "+0", "+1", "--1", " 1", "1 ", "\u22121"):
            self.check("feed " + digits)
            self.check("feed " + digits[:494] + "!")
        for digit in OTHER_DIGITS:
            for digits in (digit, digit * 2, "1" + digit, digit + "1", "0" + digit, digit + "0"):
                self.check("feed " + digits)
                self.check("feed " + digits + "!")

    def test_long_numbers(self):
        for row in ("feed 1" + "0" * 494, "feed " + "9" * 494 + "!", "feed 1" + "0" * 100):
            console = console_with(COLLECT, 3, "feed 1")
            self.assertEqual([console.say(row), console.say("rest")], ["refused", "0"])

    def test_values_that_are_no_strings(self):
        for wrong in [value for value in ANYTHING if not isinstance(value, str)] + [
                b"undo", b"feed 1", ("undo",), ["undo"], ("feed", 1, False), {"undo": 1}, {"rest"}, 1, Console]:
            with self.subTest(wrong=type(wrong)):
                self.check(wrong)
        self.check("x")


if __name__ == "__main__":
    unittest.main()
