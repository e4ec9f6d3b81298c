import itertools
import random
import unittest

from lastshort.errors import (
    Busy, InvalidCount, InvalidDeeds, InvalidSize, InvalidTold, NotALoop, NotAReading, NothingToUndo, Stopped,
    TooManyReplies)
from lastshort.loops import Loop
from lastshort.readings import Reading, attempt
from reading_tools import COLLECT, HAND, NO, YES, Boom, Checks, HarderBoom, deeds_of, fed, state_of, undo_all
from walking import random_text
from wrong import ANYTHING, NO_LOOPS, NO_READINGS, NO_SIZES, AlwaysEqual, NeverCompared, check_error


class ReadingTest(Checks):
    def test_example_of_the_document(self):
        reading = Reading(Loop(COLLECT), 3)
        self.assertEqual(
            [reading.feed(2, False), reading.feed(2, False), reading.rest, reading.feed(0, True), reading.stopped,
             reading.undo(), reading.stopped, attempt(reading, len), repr(reading)],
            [(), ((0, 1, 2),), (3,), ((3,),), True, None, False, 2, "Reading(2 replies)"])

    def test_at_the_start(self):
        for text, size in itertools.product(("ask", COLLECT, HAND), (1, 2, 1000)):
            for reading in (Reading(Loop(text), size), Reading(size=size, loop=Loop(text))):
                self.check_state(reading, text, size, ())
                self.assertEqual(repr(reading), "Reading(0 replies)")
                self.assertIs(bool(reading), False)
                self.assertIs(reading.stopped, False)
                self.assertIs(reading.busy, False)

    def test_the_loop_is_the_very_one(self):
        loop = Loop(COLLECT)
        self.assertIs(Reading(loop, 3).loop, loop)

    def test_after_each_reply(self):
        replies = ((2, NO), (0, NO), (3, NO), (1, NO), (3, NO), (0, YES))
        for text in (COLLECT, HAND, "ask add", "ask add told:stop | flush flush", "ask hand add cut hand told:stop"):
            reading = Reading(Loop(text), 3)
            for many, (count, told) in enumerate(replies):
                before = reading.pieces
                handed = reading.feed(count, told)
                self.check_state(reading, text, 3, replies[:many + 1])
                self.assertEqual(before + handed, reading.pieces)
                self.assertIs(bool(reading), True)

    def test_kinds_of_values(self):
        reading = fed(COLLECT, 3, ((2, NO), (2, NO)))
        self.assertEqual([type(reading.replies), type(reading.pieces), type(reading.rest), type(reading.stopped)],
                         [tuple, tuple, tuple, bool])
        self.assertEqual({type(reply) for reply in reading.replies}, {tuple})
        self.assertEqual({type(piece) for piece in reading.pieces}, {tuple})
        self.assertIs(type(reading.feed(1, NO)), tuple)
        self.assertIsNone(reading.undo())
        self.assertIsNone(reading.feed_all())
        self.assertIsNone(reading.feed_all(("feed", 1, NO)))

    def test_what_was_shown_is_not_changed_later(self):
        reading = fed(COLLECT, 2, ((1, NO),))
        shown = state_of(reading)
        kept = (reading.loop, reading.size, reading.replies, reading.pieces, reading.rest)
        reading.feed(2, NO)
        reading.undo()
        reading.undo()
        self.assertEqual(shown[:5], kept)
        self.assertEqual(kept[2:], (((1, NO),), (), (0,)))

    def test_equal_only_to_itself(self):
        reading, other = fed(COLLECT, 3, ((1, NO),)), fed(COLLECT, 3, ((1, NO),))
        self.assertIs(reading == reading, True)
        self.assertIs(reading != reading, False)
        for thing in (other, Reading(Loop(COLLECT), 3), reading.loop, reading.replies, repr(reading), 1, None, True, (),
                      reading.trial(), Reading):
            self.assertIs(reading == thing, False)
            self.assertIs(reading != thing, True)
        copy = reading
        reading.undo()
        self.assertIs(copy == reading, True)

    def test_several_readings_of_one_loop(self):
        loop = Loop(COLLECT)
        one, two = Reading(loop, 3), Reading(loop, 3)
        one.feed(2, NO)
        self.check_state(two, COLLECT, 3, ())
        two.feed(3, NO)
        one.undo()
        self.check_state(one, COLLECT, 3, ())
        self.check_state(two, COLLECT, 3, ((3, NO),))

    def test_empty_pieces_and_several_pieces(self):
        reading = Reading(Loop("ask hand add flush flush told:stop | hand"), 2)
        self.assertEqual(reading.feed(0, NO), ((), (), ()))
        self.assertEqual(reading.feed(2, NO), ((0, 1), (0, 1), ()))
        self.assertEqual(reading.feed(1, YES), ((2,), (2,), (), (2,)))
        self.assertEqual(reading.pieces, ((), (), (), (0, 1), (0, 1), (), (2,), (2,), (), (2,)))

    def test_replies_that_no_source_gives(self):
        # A reading takes any replies; told may change, and items may come behind it.
        replies = ((1, YES), (0, NO), (2, YES), (0, YES), (2, NO))
        self.check_state(fed("ask add told:cut", 2, replies), "ask add told:cut", 2, replies)

    def test_the_constructor(self):
        for wrong in NO_LOOPS:
            for size in (1, 0, None, []):
                check_error(self, NotALoop, "value", wrong, Reading, loop=wrong, size=size)
        for wrong in NO_SIZES:
            check_error(self, InvalidSize, "value", wrong, Reading, loop=Loop("ask"), size=wrong)
        for size in (1, 2, 999, 1000):
            self.assertEqual(Reading(Loop("ask"), size).size, size)

    def test_against_plain_runs(self):
        chance = random.Random(41)
        for _ in range(150):
            text, size, replies = random_text(chance, 6, 3), chance.randint(1, 4), []
            reading = Reading(Loop(text), size)
            for _ in range(15):
                if reading.stopped or (replies and chance.random() < 0.3):
                    reading.undo()
                    replies.pop()
                else:
                    reply = (chance.randint(0, size), chance.random() < 0.3)
                    before = reading.pieces
                    handed = reading.feed(*reply)
                    replies.append(reply)
                    self.assertEqual(before + handed, reading.pieces)
                self.check_state(reading, text, size, replies)
                self.assertEqual(reading.loop.run(size, reading.replies),
                                 (reading.pieces, len(replies), reading.stopped))


class FeedTest(Checks):
    NO_COUNTS = [value for value in ANYTHING if not isinstance(value, int) or isinstance(value, bool)] + [
        -1, -2, 4, 5, 1000, 10 ** 19, -10 ** 19, "1", (1,), [1], {1: 1}]
    NO_TOLDS = [value for value in ANYTHING if not isinstance(value, bool)] + ["True", "told", (True,), [False], 2]

    def readings(self):
        yield Reading(Loop(COLLECT), 3)
        yield fed(COLLECT, 3, ((2, NO), (2, NO)))
        yield fed(COLLECT, 3, ((2, NO), (2, YES)))
        yield fed("ask", 3, ((0, NO),) * 100)

    def test_no_counts(self):
        for reading in self.readings():
            for wrong in self.NO_COUNTS:
                for told in (True, False, None, 1, NeverCompared()):
                    self.check_unchanged(InvalidCount, "value", wrong, reading, lambda: reading.feed(wrong, told))
                    self.check_unchanged(InvalidCount, "value", wrong, reading,
                                         lambda: reading.feed(told=told, count=wrong))

    def test_no_tolds(self):
        for reading in self.readings():
            for wrong in self.NO_TOLDS:
                for count in (0, 1, 3):
                    self.check_unchanged(InvalidTold, "value", wrong, reading, lambda: reading.feed(count, wrong))
                    self.check_unchanged(InvalidTold, "value", wrong, reading,
                                         lambda: reading.feed(told=wrong, count=count))

    def test_counts_up_to_the_size(self):
        for size in (1, 2, 3, 999, 1000):
            for count in (0, 1, size - 1, size):
                self.assertEqual(fed(HAND, size, ((count, NO),)).pieces, (tuple(range(count)),))
            for wrong in (-1, size + 1, size + 2):
                reading = Reading(Loop(HAND), size)
                self.check_unchanged(InvalidCount, "value", wrong, reading, lambda: reading.feed(wrong, NO))

    def test_behind_the_stop(self):
        for text, replies in ((COLLECT, ((2, NO), (1, YES))), ("ask stop", ((0, NO),)), (HAND, ((1, NO), (0, YES)))):
            reading = fed(text, 3, replies)
            for count, told in itertools.product((0, 1, 3), (NO, YES)):
                self.check_unchanged(Stopped, None, None, reading, lambda: reading.feed(count, told))
            reading.undo()
            self.check_state(reading, text, 3, replies[:-1])
            reading.feed(*replies[-1])
            self.check_state(reading, text, 3, replies)

    def test_a_hundred_replies_and_one_more(self):
        replies = tuple((many % 3, NO) for many in range(100))
        reading = Reading(Loop(COLLECT), 2)
        for many, reply in enumerate(replies):
            self.assertEqual(len(reading), many)
            reading.feed(*reply)
        self.check_state(reading, COLLECT, 2, replies)
        self.assertEqual(repr(reading), "Reading(100 replies)")
        for count, told in itertools.product((0, 2), (NO, YES)):
            with self.assertRaises(TooManyReplies) as caught:
                reading.feed(count, told)
            self.assertEqual(caught.exception.limit, 100)
        self.check_state(reading, COLLECT, 2, replies)
        reading.undo()
        self.assertEqual(reading.feed(1, YES), ((98, 99),))
        self.check_state(reading, COLLECT, 2, replies[:99] + ((1, YES),))
        # The loop has stopped with the hundredth reply, and this is said first.
        self.check_unchanged(Stopped, None, None, reading, lambda: reading.feed(0, NO))
        self.assertEqual(undo_all(reading), 100)

    def test_by_keyword(self):
        reading = Reading(Loop(HAND), 3)
        self.assertEqual(reading.feed(told=False, count=2), ((0, 1),))
        self.assertEqual(reading.feed(1, told=True), ((2,),))


class UndoTest(Checks):
    def test_back_to_the_start_and_one_further(self):
        replies = ((2, NO), (0, NO), (3, NO), (1, YES))
        for text in (COLLECT, HAND, "ask add told:stop | flush"):
            reading = fed(text, 3, replies)
            for many in range(len(replies) - 1, -1, -1):
                self.assertIsNone(reading.undo())
                self.check_state(reading, text, 3, replies[:many])
            for _ in range(2):
                self.check_unchanged(NothingToUndo, None, None, reading, reading.undo)
            reading.feed(*replies[0])
            self.check_state(reading, text, 3, replies[:1])

    def test_at_the_start(self):
        reading = Reading(Loop(COLLECT), 3)
        self.check_unchanged(NothingToUndo, None, None, reading, reading.undo)

    def test_one_reply_at_a_time_also_of_feed_all(self):
        reading = fed(COLLECT, 3, ((1, NO),))
        reading.feed_all(("feed", 2, NO), ("feed", 3, NO), ("feed", 1, YES))
        replies = ((1, NO), (2, NO), (3, NO), (1, YES))
        self.check_state(reading, COLLECT, 3, replies)
        for many in (3, 2, 1, 0):
            reading.undo()
            self.check_state(reading, COLLECT, 3, replies[:many])
        self.check_unchanged(NothingToUndo, None, None, reading, reading.undo)

    def test_a_hundred(self):
        replies = tuple((3, NO) for _ in range(100))
        reading = fed("ask add", 3, replies)
        for many in range(99, -1, -1):
            reading.undo()
            self.assertEqual((reading.replies, reading.rest), (replies[:many], tuple(range(3 * many))))
        self.check_unchanged(NothingToUndo, None, None, reading, reading.undo)


class FeedAllTest(Checks):
    START = ((1, NO), (2, NO))
    NO_DEEDS = ANYTHING + [
        ("feed",), ("feed", 1), ("feed", 1, NO, 1), ["feed", 1, NO], ("Feed", 1, NO), ("feed ", 1, NO), ("undo", 1, NO),
        ("undo",), (None, 1, NO), (b"feed", 1, NO), (1, "feed", NO), (1, NO), (1, NO, "feed"), (("feed", 1, NO),),
        "feed", "feed 1", (["feed"], 1, NO), (AlwaysEqual(), 1, NO), ({"feed": 1}, 1, NO), ("feed", (1, NO))]

    def test_no_deeds_and_several(self):
        for many in range(5):
            replies = ((2, NO), (3, NO), (0, NO), (1, YES))[:many]
            reading = fed(COLLECT, 3, self.START)
            self.assertIsNone(reading.feed_all(*deeds_of(*replies)))
            self.check_state(reading, COLLECT, 3, self.START + replies)
            self.assertEqual(undo_all(reading), 2 + many)

    def test_no_deeds_behind_the_stop(self):
        reading = fed(COLLECT, 3, ((1, YES),))
        self.assertIsNone(reading.feed_all())
        self.check_state(reading, COLLECT, 3, ((1, YES),))

    def test_wrong_deeds(self):
        for wrong, place in itertools.product(self.NO_DEEDS, range(4)):
            deeds = list(deeds_of((1, NO), (2, NO), (0, NO), (3, NO)))
            deeds[place] = wrong
            reading, seen = fed(COLLECT, 3, self.START), []
            before = state_of(reading)
            for watch in (None, lambda reading, place: seen.append(place)):
                with self.assertRaises(InvalidDeeds) as caught:
                    reading.feed_all(*deeds, watch=watch)
                self.assertEqual(caught.exception.index, place)
                self.assertEqual(state_of(reading), before)
            self.assertEqual(seen, [])
            self.assertEqual(undo_all(reading), 2)

    def test_wrong_deeds_at_drawn_places(self):
        chance = random.Random(42)
        for _ in range(100):
            deeds = list(deeds_of(*[(chance.randint(0, 3), NO) for _ in range(12)]))
            places = sorted(chance.sample(range(12), chance.randint(1, 4)))
            for place in places:
                deeds[place] = chance.choice(self.NO_DEEDS)
            # A deed that is not possible does not matter as long as there is one that is none.
            deeds[min(set(range(12)) - set(places))] = ("feed", -1, None)
            reading = fed(COLLECT, 3, self.START)
            with self.assertRaises(InvalidDeeds) as caught:
                reading.feed_all(*deeds)
            self.assertEqual(caught.exception.index, places[0])
            self.check_state(reading, COLLECT, 3, self.START)

    def test_count_and_told_are_looked_at_in_their_turn(self):
        for deed, error, attribute, wrong in [
            (("feed", 4, NO), InvalidCount, "value", 4), (("feed", -1, None), InvalidCount, "value", -1),
            (("feed", None, None), InvalidCount, "value", None), (("feed", YES, NO), InvalidCount, "value", True),
            (("feed", 1, 1), InvalidTold, "value", 1), (("feed", 0, None), InvalidTold, "value", None),
        ]:
            for place in range(4):
                deeds = list(deeds_of((1, NO), (2, NO), (0, NO), (3, NO)))
                deeds[place] = deed
                reading, seen = fed(COLLECT, 3, self.START), []

                def watch(watched, at):
                    seen.append((at, watched.replies))

                with self.assertRaises(error) as caught:
                    reading.feed_all(*deeds, watch=watch)
                self.assertIs(type(caught.exception), error)
                self.assertIs(getattr(caught.exception, attribute), wrong)
                self.check_state(reading, COLLECT, 3, self.START)
                replies = self.START + tuple(deed[1:] for deed in deeds)
                self.assertEqual(seen, [(at, replies[:at + 3]) for at in range(place)])
                self.assertEqual(undo_all(reading), 2)

    def test_values_that_must_not_be_compared(self):
        for wrong in (NeverCompared(), AlwaysEqual()):
            reading = fed(COLLECT, 3, self.START)
            self.check_unchanged(InvalidCount, "value", wrong, reading, lambda: reading.feed_all(("feed", wrong, NO)))
            self.check_unchanged(InvalidTold, "value", wrong, reading, lambda: reading.feed_all(("feed", 1, wrong)))

    def test_behind_the_stop(self):
        reading = fed(COLLECT, 3, self.START)
        self.check_unchanged(Stopped, None, None, reading,
                             lambda: reading.feed_all(*deeds_of((1, NO), (0, YES), (0, NO))))
        # What is wrong with the reply itself is said before.
        self.check_unchanged(InvalidCount, "value", -1, reading,
                             lambda: reading.feed_all(("feed", 0, YES), ("feed", -1, NO)))
        reading.feed_all(*deeds_of((1, NO), (0, YES)))
        self.check_state(reading, COLLECT, 3, self.START + ((1, NO), (0, YES)))
        self.check_unchanged(Stopped, None, None, reading, lambda: reading.feed_all(("feed", 1, NO)))

    def test_more_than_a_hundred(self):
        reading = fed(COLLECT, 3, self.START)
        with self.assertRaises(TooManyReplies) as caught:
            reading.feed_all(*deeds_of(*[(1, NO)] * 99))
        self.assertEqual(caught.exception.limit, 100)
        self.check_state(reading, COLLECT, 3, self.START)
        reading.feed_all(*deeds_of(*[(1, NO)] * 98))
        self.assertEqual(len(reading), 100)
        with self.assertRaises(TooManyReplies):
            reading.feed_all(("feed", 0, NO))
        self.assertEqual(undo_all(reading), 100)

    def test_a_watch_that_looks(self):
        replies, seen = ((2, NO), (3, NO), (0, NO), (1, YES)), []
        reading = fed(COLLECT, 3, self.START)

        def watch(watched, place):
            self.assertIs(watched, reading)
            seen.append(place)
            self.check_state(watched, COLLECT, 3, self.START + replies[:place + 1], busy=True)

        reading.feed_all(*deeds_of(*replies), watch=watch)
        self.assertEqual(seen, [0, 1, 2, 3])
        self.check_state(reading, COLLECT, 3, self.START + replies)

    def test_a_watch_without_deeds_is_not_called(self):
        reading = fed(COLLECT, 3, self.START)
        self.assertIsNone(reading.feed_all(watch=lambda *told: self.fail("called")))
        self.assertIsNone(reading.feed_all(watch=None))
        self.check_state(reading, COLLECT, 3, self.START)

    def test_what_a_watch_returns_does_not_matter(self):
        for answer in (None, True, False, 0, "stop", [1], Boom("returned")):
            reading = fed(COLLECT, 3, self.START)
            self.assertIsNone(reading.feed_all(*deeds_of((1, NO), (2, NO)), watch=lambda *told: answer))
            self.check_state(reading, COLLECT, 3, self.START + ((1, NO), (2, NO)))

    def test_a_watch_that_raises(self):
        errors = (Boom("x"), HarderBoom("y"), ValueError("z"), KeyError("k"), Busy(), Stopped(), KeyboardInterrupt(),
                  StopIteration(), GeneratorExit())
        for error, at in itertools.product(errors, range(3)):
            reading = fed(COLLECT, 3, self.START)

            def watch(watched, place):
                if place == at:
                    raise error

            with self.assertRaises(type(error)) as caught:
                reading.feed_all(*deeds_of((1, NO), (2, NO), (0, YES)), watch=watch)
            self.assertIs(caught.exception, error)
            self.check_state(reading, COLLECT, 3, self.START)
            # The reading is free again.
            self.assertEqual(reading.feed(1, NO), ())
            reading.feed_all(("feed", 0, YES))
            with reading.trial():
                pass
            self.assertEqual(undo_all(reading), 4)

    def busy_acts(self, reading):
        """All that raises Busy, with right and with wrong arguments."""
        return [
            lambda: reading.feed(1, NO), lambda: reading.feed(-1, None), lambda: reading.feed(told=NO, count=0),
            reading.feed_all, lambda: reading.feed_all(("feed", 1, NO)), lambda: reading.feed_all(None, 1),
            lambda: reading.feed_all(watch=len), reading.undo, reading.trial, lambda: attempt(reading, len),
            lambda: attempt(act=None, reading=reading),
        ]

    def test_a_watch_that_calls_each_method(self):
        for start in ((), self.START):
            reading, seen = fed(COLLECT, 3, start), []

            def watch(watched, place):
                before = state_of(watched)
                for act in self.busy_acts(watched):
                    with self.assertRaises(Busy):
                        act()
                    self.assertEqual(state_of(watched), before)
                self.assertIs(watched.busy, True)
                self.assertEqual((watched == reading, watched != reading), (True, False))
                seen.append(place)

            # The last deed stops the loop: Busy comes ahead of Stopped, too.
            reading.feed_all(*deeds_of((1, NO), (0, YES)), watch=watch)
            self.assertEqual(seen, [0, 1])
            self.check_state(reading, COLLECT, 3, start + ((1, NO), (0, YES)))
            self.assertEqual(undo_all(reading), len(start) + 2)

    def test_a_watch_that_does_not_catch_busy(self):
        for number in range(11):
            reading = fed(COLLECT, 3, self.START)
            with self.assertRaises(Busy):
                reading.feed_all(("feed", 1, NO), watch=lambda watched, place: self.busy_acts(watched)[number]())
            self.check_state(reading, COLLECT, 3, self.START)
            self.assertEqual(undo_all(reading), 2)

    def test_a_watch_at_the_hundredth_reply(self):
        reading = fed("ask", 3, ((0, NO),) * 99)

        def watch(watched, place):
            with self.assertRaises(Busy):
                watched.feed(0, NO)

        reading.feed_all(("feed", 0, NO), watch=watch)
        self.assertEqual(len(reading), 100)

    def test_other_readings_are_free(self):
        reading, other = fed(COLLECT, 3, self.START), Reading(Loop(HAND), 2)

        def watch(watched, place):
            other.feed(place, NO)
            other.feed_all(("feed", 1, NO), watch=lambda inner, at: self.assertIs(inner.busy and reading.busy, True))
            self.assertIs(other.busy, False)
            self.assertEqual(attempt(other, len), len(other))

        reading.feed_all(*deeds_of((1, NO), (1, NO)), watch=watch)
        self.check_state(other, HAND, 2, ((0, NO), (1, NO), (1, NO), (1, NO)))

    def test_busy_is_not_shown_behind_an_error(self):
        reading = fed(COLLECT, 3, self.START)
        for act in (lambda: reading.feed_all(None), lambda: reading.feed_all(("feed", 9, NO)),
                    lambda: reading.feed_all(("feed", 0, YES), ("feed", 0, NO))):
            with self.assertRaises((InvalidDeeds, InvalidCount, Stopped)):
                act()
            self.assertIs(reading.busy, False)

    def test_a_list_of_deeds_is_not_changed(self):
        deeds = list(deeds_of((1, NO), (2, NO)))
        fed(COLLECT, 3, ()).feed_all(*deeds)
        self.assertEqual(deeds, [("feed", 1, NO), ("feed", 2, NO)])


class AttemptErrorsTest(Checks):
    def test_no_readings(self):
        for wrong in NO_READINGS:
            for act in (len, None, lambda reading: self.fail("called")):
                check_error(self, NotAReading, "value", wrong, attempt, reading=wrong, act=act)


if __name__ == "__main__":
    unittest.main()
