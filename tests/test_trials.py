"""Blocks after which a reading has the replies that it had before."""

import itertools
import random
import unittest

from lastshort.errors import Busy, InvalidCount, NothingToUndo, Stopped
from lastshort.loops import Loop
from lastshort.readings import Reading, attempt, within
from reading_tools import (
    COLLECT, NO, YES, Boom, Checks, HarderBoom, deeds_of, fed, plain_state, state_of, undo_all)
from walking import Worker, random_text

START = ((1, NO), (2, NO), (1, NO))


def enter(manager):
    """Enter a block that is not left at the end of a row of statements."""
    return manager.__enter__()


def leave(manager):
    return manager.__exit__(None, None, None)


class TrialTest(Checks):
    def test_a_block_is_given_the_reading(self):
        reading = fed(COLLECT, 3, START)
        with reading.trial() as given:
            self.assertIs(given, reading)
        self.check_back(reading, START)

    def test_replies_within_the_block(self):
        reading = fed(COLLECT, 3, START)
        with reading.trial():
            reading.feed(3, NO)
            reading.feed_all(*deeds_of((1, NO), (0, YES)))
            self.check_state(reading, COLLECT, 3, START + ((3, NO), (1, NO), (0, YES)))
        self.check_back(reading, START)

    def test_undoing_within_the_block(self):
        for many, more in itertools.product(range(4), ((), ((2, NO),), ((3, NO), (0, YES)))):
            reading = fed(COLLECT, 3, START)
            with reading.trial():
                for _ in range(many):
                    reading.undo()
                for reply in more:
                    reading.feed(*reply)
                self.check_state(reading, COLLECT, 3, START[:3 - many] + more)
            self.check_back(reading, START)

    def test_undoing_all_and_one_further_within_the_block(self):
        reading = fed(COLLECT, 3, START)
        with reading.trial():
            self.assertEqual(undo_all(reading), 3)
            self.check_unchanged(NothingToUndo, None, None, reading, reading.undo)
        self.check_back(reading, START)

    def test_a_block_at_the_start(self):
        reading = Reading(Loop(COLLECT), 3)
        with reading.trial():
            reading.feed(2, YES)
        self.check_back(reading, ())

    def test_a_block_behind_the_stop(self):
        reading = fed(COLLECT, 3, ((1, NO), (2, YES)))
        with reading.trial():
            self.check_unchanged(Stopped, None, None, reading, lambda: reading.feed(1, NO))
            reading.undo()
            reading.feed(3, NO)
            self.assertIs(reading.stopped, False)
        self.check_back(reading, ((1, NO), (2, YES)))

    def test_a_block_with_a_hundred_replies(self):
        reading = fed("ask", 3, ((0, NO),) * 98)
        with reading.trial():
            reading.feed(1, NO)
            reading.feed(1, NO)
            self.assertEqual(len(reading), 100)
        self.assertEqual(reading.replies, ((0, NO),) * 98)
        self.assertEqual(undo_all(reading), 98)

    def test_blocks_that_raise(self):
        for error in (Boom("x"), HarderBoom("y"), ValueError("z"), KeyboardInterrupt(), StopIteration(), Busy()):
            reading = fed(COLLECT, 3, START)
            with self.assertRaises(type(error)) as caught:
                with reading.trial():
                    reading.undo()
                    reading.feed(3, NO)
                    raise error
            self.assertIs(caught.exception, error)
            self.check_back(reading, START)

    def test_blocks_with_an_error_of_the_reading(self):
        reading = fed(COLLECT, 3, START)
        with self.assertRaises(InvalidCount) as caught:
            with reading.trial():
                reading.feed(1, NO)
                reading.feed(4, NO)
        self.assertEqual(caught.exception.value, 4)
        self.check_back(reading, START)

    def test_blocks_that_are_left_in_other_ways(self):
        def by_return(reading):
            with reading.trial():
                reading.feed(3, NO)
                return "returned"

        reading = fed(COLLECT, 3, START)
        self.assertEqual(by_return(reading), "returned")
        for _ in range(3):
            with reading.trial():
                reading.feed(3, NO)
                continue
        for _ in range(3):
            with reading.trial():
                reading.undo()
                break
        self.check_back(reading, START)

    def test_blocks_within_blocks(self):
        reading = fed(COLLECT, 3, START)
        with reading.trial():
            reading.feed(3, NO)
            with reading.trial():
                reading.undo()
                reading.undo()
                with reading.trial():
                    reading.feed(0, YES)
                    self.check_state(reading, COLLECT, 3, START[:2] + ((0, YES),))
                self.check_state(reading, COLLECT, 3, START[:2])
            self.check_state(reading, COLLECT, 3, START + ((3, NO),))
            reading.undo()
        self.check_back(reading, START)

    def test_the_same_manager_again_and_again(self):
        reading = fed(COLLECT, 3, START)
        manager = reading.trial()
        for many in range(4):
            with manager as given:
                self.assertIs(given, reading)
                reading.feed(2, NO)
                reading.feed(2, NO)
            self.check_state(reading, COLLECT, 3, START + ((3, NO),) * many)
            # It goes back to what was there when it was entered, not when it was made.
            reading.feed(3, NO)
        self.check_back(reading, START + ((3, NO),) * 4)

    def test_the_same_manager_within_its_own_block(self):
        reading = fed(COLLECT, 3, START)
        manager = reading.trial()
        with manager:
            reading.feed(1, NO)
            with manager:
                reading.undo()
                reading.undo()
                with manager:
                    reading.feed(3, NO)
                self.check_state(reading, COLLECT, 3, START[:2])
            self.check_state(reading, COLLECT, 3, START + ((1, NO),))
            with manager:
                reading.feed(2, NO)
            self.check_state(reading, COLLECT, 3, START + ((1, NO),))
        self.check_back(reading, START)

    def test_a_manager_that_is_entered_long_after(self):
        reading = Reading(Loop(COLLECT), 3)
        manager = reading.trial()
        reading.feed_all(*deeds_of(*START))
        with manager:
            undo_all(reading)
        self.check_back(reading, START)

    def test_blocks_that_are_not_left_in_order(self):
        reading = fed(COLLECT, 3, START)
        one, two = reading.trial(), reading.trial()
        enter(one)
        reading.feed(3, NO)
        enter(two)
        reading.feed(2, NO)
        self.assertFalse(leave(one))
        self.check_state(reading, COLLECT, 3, START)
        self.assertFalse(leave(two))
        self.check_back(reading, START + ((3, NO),))

    def test_managers_of_several_readings(self):
        one, two = fed(COLLECT, 3, START), fed(COLLECT, 3, START[:1])
        with one.trial(), two.trial():
            one.undo()
            two.feed(3, NO)
        self.check_back(one, START)
        self.check_back(two, START[:1])

    def test_a_manager_is_true_and_can_be_compared(self):
        manager = Reading(Loop("ask"), 1).trial()
        self.assertTrue(manager)
        self.assertTrue(manager == manager)
        self.assertTrue(manager != Reading(Loop("ask"), 1).trial())


class WithinTest(Checks):
    def test_within(self):
        reading = fed(COLLECT, 3, START)
        manager = reading.trial()

        def act(given):
            self.assertIs(given, reading)
            given.feed(3, NO)
            return given.feed(0, YES)

        for _ in range(2):
            self.assertEqual(within(manager, act), ((6,),))
            self.assertEqual(within(act=act, trial=manager), ((6,),))
        self.check_back(reading, START)

    def test_attempt(self):
        reading = fed(COLLECT, 3, START)
        self.assertEqual(attempt(reading, len), 3)
        self.assertEqual(attempt(act=undo_all, reading=reading), 3)
        self.assertEqual(attempt(reading, lambda given: given.feed(2, YES)), ((3, 4, 5),))
        self.assertIsNone(attempt(reading, lambda given: given.undo()))
        result = object()
        self.assertIs(attempt(reading, lambda given: result), result)
        self.check_back(reading, START)

    def test_errors_of_act(self):
        for error in (Boom("x"), HarderBoom("y"), KeyboardInterrupt(), StopIteration(), LookupError(), ValueError()):
            reading = fed(COLLECT, 3, START)

            def act(given):
                given.undo()
                raise error

            for call in (lambda: attempt(reading, act), lambda: within(reading.trial(), act)):
                with self.assertRaises(type(error)) as caught:
                    call()
                self.assertIs(caught.exception, error)
                self.check_state(reading, COLLECT, 3, START)
            self.check_back(reading, START)

    def test_blocks_within_blocks_by_functions(self):
        reading = fed(COLLECT, 3, START)
        manager = reading.trial()

        def inner(given):
            given.feed(2, NO)
            return attempt(given, undo_all), len(given)

        def outer(given):
            given.undo()
            return within(manager, inner), given.replies

        self.assertEqual(within(manager, outer), ((3, 3), START[:2]))
        self.check_back(reading, START)


class DuringFeedAllTest(Checks):
    def test_trial_raises_busy_when_it_is_called(self):
        reading = fed(COLLECT, 3, START)

        def watch(watched, place):
            with self.assertRaises(Busy):
                watched.trial()
            with self.assertRaises(Busy):
                attempt(watched, len)

        reading.feed_all(("feed", 1, NO), watch=watch)
        self.check_state(reading, COLLECT, 3, START + ((1, NO),))

    def test_a_manager_that_exists_already(self):
        reading, seen = fed(COLLECT, 3, START), []
        manager = reading.trial()
        replies = START + ((3, NO), (1, NO))

        def act(given):
            with self.assertRaises(Busy):
                given.undo()
            return given.replies

        def watch(watched, place):
            seen.append(within(manager, act))
            with manager as given, manager:
                self.assertIs(given, reading)
                self.assertIs(given.busy, True)
            self.check_state(watched, COLLECT, 3, replies[:place + 4], busy=True)

        reading.feed_all(*deeds_of(*replies[3:]), watch=watch)
        self.assertEqual(seen, [replies[:4], replies])
        self.check_state(reading, COLLECT, 3, replies)
        self.assertEqual(undo_all(reading), 5)

    def test_a_block_that_ends_during_the_call_sets_back_the_replies_and_nothing_else(self):
        reading, seen = fed(COLLECT, 3, START), []
        manager = reading.trial()
        enter(manager)
        reading.feed(3, NO)

        def watch(watched, place):
            if place == 1:
                leave(manager)
                self.check_state(watched, COLLECT, 3, START, busy=True)
                with self.assertRaises(Busy):
                    watched.feed(0, NO)
            seen.append(watched.replies)

        reading.feed_all(*deeds_of((1, NO), (2, NO), (0, NO), (2, YES)), watch=watch)
        self.assertEqual(seen, [START + ((3, NO), (1, NO)), START, START + ((0, NO),), START + ((0, NO), (2, YES))])
        self.check_state(reading, COLLECT, 3, START + ((0, NO), (2, YES)))
        self.assertEqual(undo_all(reading), 5)

    def test_a_block_that_ends_behind_a_deed_that_stopped_the_loop(self):
        reading = fed(COLLECT, 3, START)
        manager = reading.trial()
        enter(manager)

        def watch(watched, place):
            if place == 0:
                self.assertIs(watched.stopped, True)
                leave(manager)
                self.assertIs(watched.stopped, False)

        reading.feed_all(*deeds_of((1, YES), (2, NO)), watch=watch)
        self.check_state(reading, COLLECT, 3, START + ((2, NO),))

    def test_a_failing_call_during_which_a_block_ended(self):
        for fail in (lambda: Boom("x"), HarderBoom):
            reading = fed(COLLECT, 3, START)
            manager = reading.trial()
            enter(manager)
            reading.undo()
            reading.feed(3, NO)
            before = state_of(reading)

            def watch(watched, place):
                if place == 0:
                    leave(manager)
                else:
                    raise fail()

            with self.assertRaises((Boom, HarderBoom)):
                reading.feed_all(*deeds_of((1, NO), (2, NO)), watch=watch)
            self.assertEqual(state_of(reading), before)
            self.check_state(reading, COLLECT, 3, START[:2] + ((3, NO),))
            self.assertEqual(undo_all(reading), 3)

    def test_a_deed_that_is_not_possible_behind_a_block_that_ended(self):
        reading = fed(COLLECT, 3, START)
        manager = reading.trial()
        enter(manager)
        undo_all(reading)
        with self.assertRaises(InvalidCount):
            reading.feed_all(("feed", 1, NO), ("feed", 4, NO), watch=lambda watched, place: leave(manager))
        self.check_state(reading, COLLECT, 3, ())
        self.check_unchanged(NothingToUndo, None, None, reading, reading.undo)

    def test_a_block_entered_during_the_call_and_left_in_a_later_deed(self):
        reading = fed(COLLECT, 3, START)
        manager = reading.trial()

        def watch(watched, place):
            if place == 0:
                enter(manager)
            if place == 2:
                leave(manager)
                self.check_state(watched, COLLECT, 3, START + ((1, NO),), busy=True)

        reading.feed_all(*deeds_of((1, NO), (2, NO), (3, NO), (0, NO)), watch=watch)
        self.check_state(reading, COLLECT, 3, START + ((1, NO), (0, NO)))
        self.assertEqual(undo_all(reading), 5)

    def test_a_block_entered_during_the_call_and_left_behind_it(self):
        reading = fed(COLLECT, 3, START)
        manager = reading.trial()
        reading.feed_all(*deeds_of((1, NO), (2, NO)), watch=lambda watched, place: place or enter(manager))
        self.check_state(reading, COLLECT, 3, START + ((1, NO), (2, NO)))
        leave(manager)
        self.check_state(reading, COLLECT, 3, START + ((1, NO),))
        self.assertEqual(undo_all(reading), 4)

    def test_a_watch_that_raises_in_a_block(self):
        reading = fed(COLLECT, 3, START)
        manager = reading.trial()

        def watch(watched, place):
            if place == 1:
                with manager:
                    raise Boom("within")

        with self.assertRaises(Boom):
            reading.feed_all(*deeds_of((1, NO), (2, NO)), watch=watch)
        self.check_state(reading, COLLECT, 3, START)
        self.assertIs(reading.busy, False)
        with manager:
            reading.feed(1, NO)
        self.check_state(reading, COLLECT, 3, START)

    def test_a_call_within_a_block(self):
        reading = fed(COLLECT, 3, START)
        with reading.trial():
            reading.feed_all(*deeds_of((1, NO), (0, YES)))
            with self.assertRaises(Stopped):
                reading.feed_all(*deeds_of((1, NO)))
            self.check_state(reading, COLLECT, 3, START + ((1, NO), (0, YES)))
        self.check_state(reading, COLLECT, 3, START)


class Model:
    """The replies of a reading as a plain list, and managers as plain stacks of such lists."""

    def __init__(self, text, size, many_managers):
        self.text, self.size = text, size
        self.replies = []
        self.stacks = [[] for _ in range(many_managers)]

    def is_stopped(self):
        worker, first = Worker(self.text, self.size), 0
        for count, told in self.replies:
            worker.round(range(first, first + count), told)
            first += count
        return worker.stopped


class DrawnTest(unittest.TestCase):
    """Drawn rows of calls, with blocks that begin and end anywhere, against a plain list of replies."""

    def check(self):
        self.assertEqual(state_of(self.reading),
                         plain_state(self.model.text, self.model.size, self.model.replies, self.busy))

    def draw_reply(self):
        return self.chance.randint(0, self.model.size), self.chance.random() < 0.2

    def feed(self):
        count, told = self.draw_reply()
        if self.busy:
            self.assertRaises(Busy, self.reading.feed, count, told)
        elif self.model.is_stopped():
            self.assertRaises(Stopped, self.reading.feed, count, told)
        else:
            before = self.reading.pieces
            handed = self.reading.feed(count, told)
            self.model.replies = self.model.replies + [(count, told)]
            self.assertEqual(before + handed, self.reading.pieces)

    def undo(self):
        if self.busy:
            self.assertRaises(Busy, self.reading.undo)
        elif not self.model.replies:
            self.assertRaises(NothingToUndo, self.reading.undo)
        else:
            self.reading.undo()
            self.model.replies = self.model.replies[:-1]

    def enter(self):
        number = self.chance.randrange(len(self.managers))
        self.assertIs(enter(self.managers[number]), self.reading)
        self.model.stacks[number].append(self.model.replies)

    def leave(self):
        number = self.chance.randrange(len(self.managers))
        if self.model.stacks[number]:
            leave(self.managers[number])
            self.model.replies = self.model.stacks[number].pop()

    def feed_all(self):
        deeds = [("feed", *self.draw_reply()) for _ in range(self.chance.randint(0, 4))]
        if self.busy:
            self.assertRaises(Busy, self.reading.feed_all, *deeds)
            return
        before, fail_at = self.model.replies, self.chance.randint(0, 8)
        possible, self.busy = not (deeds and self.model.is_stopped()), True

        def watch(reading, place):
            nonlocal possible
            self.assertIs(reading, self.reading)
            self.model.replies = self.model.replies + [deeds[place][1:]]
            self.check()
            for _ in range(self.chance.randint(0, 2)):
                self.step()
            if place == fail_at:
                raise Boom("drawn")
            possible = place + 1 == len(deeds) or not self.model.is_stopped()

        try:
            self.reading.feed_all(*deeds, watch=watch)
            self.assertTrue(possible)
        except Boom:
            self.assertLess(fail_at, len(deeds))
            self.model.replies = before
        except Stopped:
            self.assertFalse(possible)
            self.model.replies = before
        self.busy = False

    def step(self):
        self.chance.choice([self.feed, self.feed, self.feed, self.undo, self.enter, self.leave, self.feed_all])()
        self.check()

    def test_drawn_calls(self):
        self.chance = random.Random(43)
        for _ in range(120):
            text = self.chance.choice([COLLECT, "ask hand told:stop", random_text(self.chance, 5, 2)])
            size = self.chance.randint(1, 3)
            self.reading, self.model, self.busy = Reading(Loop(text), size), Model(text, size, 3), False
            self.managers = [self.reading.trial() for _ in range(3)]
            for _ in range(40):
                self.step()
            many = len(self.model.replies)
            self.assertEqual(undo_all(self.reading), many)


if __name__ == "__main__":
    unittest.main()
