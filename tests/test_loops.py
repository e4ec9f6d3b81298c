import itertools
import unittest

from lastshort.errors import InvalidPlace
from lastshort.loops import Loop
from lastshort.sources import Source
from walking import ENDING_WORDS, ROUND_WORDS

LONG_ROUND = ("ask", "empty:again", "told:flush", "add", "cut", "some:hand", "full:again", "short:cut", "open:hand",
              "rest:flush", "bare:stop", "stop")
LONG_ENDING = ("rest:flush", "cut", "bare:hand", "told:flush", "open:cut", "hand")

# Rounds and endings; the texts are put together from them.
PARTS = [
    (("ask",), ()),
    (("ask", "stop"), ()),
    (("ask", "empty:stop", "hand"), ()),
    (("ask", "add", "cut", "told:stop"), ("rest:flush",)),
    (("ask",), ("hand",)),
    (("ask", "full:add", "full:again", "stop"), ("flush", "hand")),
    (("ask", "hand", "hand", "hand"), ("cut", "cut", "cut")),
    (LONG_ROUND, ()),
    (LONG_ROUND, LONG_ENDING),
    (("ask",), LONG_ENDING),
] + [(LONG_ROUND[:k], LONG_ENDING[:m]) for k, m in itertools.product(range(1, 13), range(7))]


def joined(first, last):
    return " ".join(first) + (" | " + " ".join(last) if last else "")


class AlwaysEqual:
    def __eq__(self, other):
        return True

    def __hash__(self):
        return 1


class LoopTest(unittest.TestCase):
    def test_words_text_and_length(self):
        for first, last in PARTS:
            text = joined(first, last)
            with self.subTest(text=text):
                loop = Loop(text)
                self.assertEqual(loop.text, text)
                self.assertEqual(loop.round, first)
                self.assertEqual(loop.ending, last)
                self.assertIs(type(loop.round), tuple)
                self.assertIs(type(loop.ending), tuple)
                self.assertEqual(len(loop), len(first) + len(last))
                self.assertIs(bool(loop), True)
                self.assertEqual(str(loop), text)
                self.assertEqual(repr(loop), "Loop(" + text + ")")

    def test_the_greatest_length(self):
        loop = Loop(joined(LONG_ROUND, LONG_ENDING))
        self.assertEqual((len(loop.round), len(loop.ending), len(loop)), (12, 6, 18))

    def test_each_word_of_a_round(self):
        self.assertEqual(len(ROUND_WORDS), 54)
        for word in ROUND_WORDS:
            loop = Loop("ask " + word)
            self.assertEqual((loop.round, loop.ending, len(loop)), (("ask", word), (), 2))

    def test_each_word_of_an_ending(self):
        self.assertEqual(len(ENDING_WORDS), 27)
        for word in ENDING_WORDS:
            loop = Loop("ask stop | " + word)
            self.assertEqual((loop.round, loop.ending, len(loop)), (("ask", "stop"), (word,), 3))

    def test_by_keyword(self):
        self.assertEqual(Loop(text="ask hand | cut").text, "ask hand | cut")

    def test_equal_exactly_if_the_texts_are(self):
        texts = sorted({joined(first, last) for first, last in PARTS})
        for one, other in itertools.product(texts, texts):
            self.assertIs(Loop(one) == Loop(other), one == other)
            self.assertIs(Loop(one) != Loop(other), one != other)

    def test_loops_with_the_same_words_in_another_place_differ(self):
        self.assertNotEqual(Loop("ask hand"), Loop("ask | hand"))
        self.assertNotEqual(Loop("ask hand cut"), Loop("ask cut hand"))
        self.assertNotEqual(Loop("ask hand"), Loop("ask hand hand"))
        self.assertNotEqual(Loop("ask open:hand"), Loop("ask hand"))

    def test_equal_to_nothing_else(self):
        for first, last in PARTS[:12]:
            loop = Loop(joined(first, last))
            others = [loop.text, repr(loop), first + last, first, list(first), (first, last), None, True, len(loop), (),
                      b"ask", object(), Loop, loop.run, AlwaysEqual(), Source("short", "prompt", "empty")]
            for other in others:
                self.assertIs(loop == other, False, other)
                self.assertIs(loop != other, True, other)

    def test_examples_of_the_document(self):
        loop = Loop("ask add cut told:stop | rest:flush")
        self.assertEqual(
            [loop.round, loop.ending, len(loop), loop.without(2).text, repr(Source("short", "prompt", "with"))],
            [("ask", "add", "cut", "told:stop"), ("rest:flush",), 5, "ask add told:stop | rest:flush",
             "Source(short prompt with)"])
        self.assertEqual(repr(Loop("ask empty:stop hand")), "Loop(ask empty:stop hand)")


class WithoutTest(unittest.TestCase):
    def test_every_place(self):
        for first, last in PARTS:
            text = joined(first, last)
            loop = Loop(text)
            for place in range(1, len(first) + len(last)):
                at = place - len(first)
                if place < len(first):
                    expected = joined(first[:place] + first[place + 1:], last)
                else:
                    expected = joined(first, last[:at] + last[at + 1:])
                for less in (loop.without(place), loop.without(place=place)):
                    with self.subTest(text=text, place=place):
                        self.assertIsInstance(less, Loop)
                        self.assertEqual(less.text, expected)
                        self.assertEqual(less, Loop(expected))
                        self.assertEqual(len(less), len(loop) - 1)
                self.assertEqual((loop.text, loop.round, loop.ending), (text, first, last))

    def test_the_last_word_of_an_ending(self):
        less = Loop("ask stop | flush").without(2)
        self.assertEqual((less.text, less.ending), ("ask stop", ()))
        self.assertEqual(Loop("ask | cut").without(1), Loop("ask"))

    def test_one_of_several_equal_words(self):
        for place in (1, 2, 3):
            self.assertEqual(Loop("ask hand hand hand | hand").without(place).text, "ask hand hand | hand")
        self.assertEqual(Loop("ask hand hand hand | hand").without(4).text, "ask hand hand hand")

    def test_again_and_again(self):
        loop = Loop(joined(LONG_ROUND, LONG_ENDING))
        while len(loop) > 1:
            loop = loop.without(len(loop) - 1)
        self.assertEqual(loop.text, "ask")
        loop = Loop(joined(LONG_ROUND, LONG_ENDING))
        while len(loop) > 1:
            loop = loop.without(1)
        self.assertEqual(loop.text, "ask")

    def check(self, loop, wrong):
        text = loop.text
        for call in (lambda: loop.without(wrong), lambda: loop.without(place=wrong)):
            with self.assertRaises(InvalidPlace) as caught:
                call()
            self.assertIs(caught.exception.value, wrong)
        self.assertEqual(loop.text, text)

    def test_no_places(self):
        wrong_ones = [0, -1, -2, -4, -100, -10 ** 19, 10 ** 19, 100, True, False, None, "", "1", "hand", b"1", (), (1,),
                      [], [1], {}, {1: 1}, {1}, object(), int, ..., range(2), Loop("ask"), [[[1]]]]
        for first, last in PARTS[:12]:
            loop = Loop(joined(first, last))
            for wrong in wrong_ones:
                with self.subTest(loop=loop, wrong=wrong):
                    self.check(loop, wrong)

    def test_the_length_and_beyond(self):
        for first, last in PARTS:
            loop = Loop(joined(first, last))
            for more in (0, 1, 2, 50):
                self.check(loop, len(loop) + more)
            self.check(loop, 0)
            self.check(loop, -1)
            self.check(loop, -len(loop))


if __name__ == "__main__":
    unittest.main()
