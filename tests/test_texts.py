"""Texts of loops, and texts that are none."""

import random
import re
import unittest

from lastshort.errors import InvalidText
from lastshort.loops import Loop
from walking import ENDING_WORDS, ROUND_WORDS, STEPS, TESTS, random_text

# Point 9, as far as an expression can say it; `add` is counted besides.
TEST = r"(?:(?:empty|some|short|full|told|open|rest|bare):)?"
IN_ROUND = TEST + r"(?:add|hand|cut|flush|stop|again)"
IN_ENDING = TEST + r"(?:hand|cut|flush)"
TEXT = re.compile(r"ask(?: %s){0,11}(?: \| %s(?: %s){0,5})?" % (IN_ROUND, IN_ENDING, IN_ENDING))


def is_text(text):
    return TEXT.fullmatch(text) is not None and text.count("add") <= 1


RIGHT = [
    "ask", "ask hand", "ask empty:stop hand", "ask add cut told:stop | rest:flush", "ask | flush",
    "ask stop | hand cut", "ask short:stop some:hand full:again | open:flush bare:hand", "ask rest:cut bare:add",
]
WRONG = [
    "", " ", "  ", "|", " | ", " |", "| ", "hand", "stop", "add", "empty:stop hand", "hand ask", "Ask", "ASK", "ask.",
    " ask", "ask ", " ask ", "ask\n", "\nask", "ask\t", "ask  hand", "ask hand ", "ask  ", "ask\thand", "ask\nhand",
    "ask,hand", "ask;hand", "ask-hand", "askhand", "ask:hand", "ask\u00a0hand", "ask\u2003hand", "\ufeffask",
    # bars
    "ask |", "ask | ", "ask|", "ask|hand", "ask |hand", "ask| hand", "ask  | hand", "ask |  hand", "ask | hand ",
    "ask | | hand", "ask | hand | cut", "ask | hand |", "ask | hand | ", "| ask", " | ask", " | hand", "| hand",
    "ask || hand", "ask | |", "ask hand |", "ask | cut  hand", "ask / hand", "|ask",
    # tests and colons
    "ask :hand", "ask hand:", "ask empty:", "ask :", "ask ::", "ask empty", "ask told", "ask rest", "ask empty::hand",
    "ask empty:some:hand", "ask hand:empty", "ask hand:hand", "ask empty:told", "ask empty: hand", "ask empty :hand",
    "ask empty : hand", "ask Empty:hand", "ask empty:Hand", "ask emptyhand", "ask empty.hand", "ask not:hand",
    "ask none:hand", "ask exact:hand", "ask with:hand", "ask behind:stop", "ask never:stop", "ask ask:hand",
    "ask stop:hand", "ask add:hand",
    # steps
    "ask give", "ask han", "ask hands", "ask Hand", "ask fill", "ask tail", "ask feed", "ask empty:give", "ask break",
    "ask 1", "ask hand2", "ask none", "ask empty:stop,hand",
    # ask
    "empty:ask", "told:ask hand", "full:ask stop", "ask ask", "ask hand ask", "ask hand ask stop", "ask empty:ask",
    "ask hand told:ask", "ask open:ask hand", "ask | ask", "ask | told:ask", "ask hand | hand ask",
    # add
    "ask add add", "ask add hand add", "ask empty:add some:add", "ask add full:add", "ask add cut add | flush",
    "ask | add", "ask hand | some:add", "ask add | add", "ask add | full:add", "ask | hand add",
    # the ending has no stop and no again
    "ask | stop", "ask | again", "ask | told:stop", "ask | empty:again", "ask | flush stop", "ask stop | stop",
    "ask | hand rest:again",
]


class TextsTest(unittest.TestCase):
    def check_wrong(self, value):
        for call in (lambda: Loop(value), lambda: Loop(text=value)):
            with self.assertRaises(InvalidText) as caught:
                call()
            self.assertIs(caught.exception.value, value)

    def check(self, text):
        if is_text(text):
            self.assertEqual(Loop(text).text, text)
        else:
            self.check_wrong(text)

    def test_the_expression_of_this_test_knows_the_lists(self):
        self.assertEqual([text for text in RIGHT if not is_text(text)], [])
        self.assertEqual([text for text in WRONG if is_text(text)], [])

    def test_right_texts(self):
        for text in RIGHT:
            self.assertEqual(Loop(text).text, text)

    def test_wrong_texts(self):
        for text in WRONG:
            with self.subTest(text=text):
                self.check_wrong(text)

    def test_lengths_of_the_round(self):
        for word in ("hand", "told:stop", "cut"):
            for tail in ("", " | flush", " | cut hand flush cut hand flush"):
                for many in range(12):
                    self.assertEqual(len(Loop("ask" + (" " + word) * many + tail).round), many + 1)
                for many in (12, 13, 14, 20, 50):
                    self.check_wrong("ask" + (" " + word) * many + tail)

    def test_lengths_of_the_ending(self):
        for word in ("hand", "told:flush", "cut"):
            for head in ("ask", "ask stop", "ask" + " hand" * 11):
                for many in range(1, 7):
                    self.assertEqual(len(Loop(head + " |" + (" " + word) * many).ending), many)
                for many in (0, 7, 8, 12, 30):
                    self.check_wrong(head + " |" + (" " + word) * many)

    def test_too_long_with_the_other_part_at_its_limit(self):
        self.assertEqual(len(Loop("ask" + " hand" * 11 + " |" + " cut" * 6)), 18)
        self.check_wrong("ask" + " hand" * 12 + " |" + " cut" * 6)
        self.check_wrong("ask" + " hand" * 11 + " |" + " cut" * 7)

    def test_all_pairs_of_a_test_and_a_step(self):
        heads, steps = TESTS + STEPS + ("ask", ""), STEPS + TESTS + ("ask", "")
        for test in heads:
            for step in steps:
                self.check("ask " + test + ":" + step)
                self.check("ask stop | " + test + ":" + step)
                self.check(test + ":" + step + " hand")

    def test_a_character_put_in_left_out_or_exchanged(self):
        for text in RIGHT:
            for place in range(len(text) + 1):
                self.check(text[:place] + text[place + 1:])
                self.check(text[:place] + text[place:place + 2][::-1] + text[place + 2:])
                for character in " |:ahdA\n\t0.":
                    self.check(text[:place] + character + text[place:])
                    self.check(text[:place] + character + text[place + 1:])

    def test_a_word_put_in_left_out_or_exchanged(self):
        chance = random.Random(9)
        extra = ROUND_WORDS + ["ask", "|", "", "told:ask", "empty", "add", "some:add"]
        for _ in range(300):
            words = random_text(chance, 11, 6).split(" ")
            place, other = chance.randrange(len(words)), chance.randrange(len(words))
            self.check(" ".join(words))
            self.check(" ".join(words[:place] + words[place + 1:]))
            self.check(" ".join(words[:place] + [chance.choice(extra)] + words[place:]))
            self.check(" ".join(words[:place] + [chance.choice(extra)] + words[place + 1:]))
            words[place], words[other] = words[other], words[place]
            self.check(" ".join(words))

    def test_one_word_of_each_kind_with_add(self):
        adding = [word for word in ROUND_WORDS if word.endswith("add")]
        self.assertEqual(len(adding), 9)
        for one in adding:
            self.assertEqual(Loop("ask hand " + one + " stop").round[2], one)
            self.check_wrong("ask | " + one)
            for other in adding:
                self.check_wrong("ask " + one + " " + other)

    def test_every_ending_word_is_a_round_word(self):
        for word in ROUND_WORDS:
            self.check("ask | " + word)
            self.assertEqual(is_text("ask | " + word), word in ENDING_WORDS)

    def test_long_strings(self):
        for text in ("ask" * 166, "ask " * 125, " " * 500, "|" * 500, "ask" + " hand" * 99, "x" * 500, ":" * 500):
            self.check_wrong(text)

    def test_values_that_are_no_strings(self):
        loop = Loop("ask hand")
        for value in [None, True, False, 0, 1, -1, 10 ** 19, b"", b"ask", b"ask hand", (), ("ask",), ("ask", "hand"),
                      [], ["ask"], ["ask", "hand"], {}, {"ask": "hand"}, {"ask"}, object(), str, len, ..., loop, Loop,
                      [[["ask"]]], range(3)]:
            with self.subTest(value=value):
                self.check_wrong(value)


if __name__ == "__main__":
    unittest.main()
