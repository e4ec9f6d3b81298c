import random
import unittest

from lastshort.errors import InvalidReplies, InvalidSize
from lastshort.loops import Loop
from walking import execute, random_text

NO, YES = False, True


class RunTest(unittest.TestCase):
    def check(self, text, size, replies, expected):
        with self.subTest(text=text, size=size, replies=replies):
            loop = Loop(text)
            self.assertEqual(loop.run(size, replies), expected)
            self.assertEqual(loop.run(replies=replies, size=size), expected)
            self.assertEqual(loop, Loop(text))

    def test_examples_of_the_document(self):
        loop = Loop("ask add cut told:stop | rest:flush")
        self.assertEqual(
            [loop.run(3, ((2, False), (3, False), (2, True), (1, False))), loop.run(3, ((2, False), (2, False)))],
            [(((0, 1, 2), (3, 4, 5), (6,)), 3, True), (((0, 1, 2),), 2, False)])

    def test_kinds_of_the_results(self):
        pieces, used, stopped = result = Loop("ask hand told:stop").run(2, ((2, NO), (0, YES)))
        self.assertEqual(result, (((0, 1), ()), 2, True))
        self.assertEqual([type(result), type(pieces), type(used), type(stopped)], [tuple, tuple, int, bool])
        self.assertEqual({type(piece) for piece in pieces}, {tuple})
        self.assertEqual({type(item) for piece in pieces for item in piece}, {int})

    def test_no_replies(self):
        for text in ("ask", "ask stop", "ask stop | hand flush", "ask hand", "ask add cut told:stop | rest:flush"):
            for size in (1, 3, 1000):
                self.check(text, size, (), ((), 0, False))

    def test_hand(self):
        self.check("ask hand", 3, ((2, NO), (0, NO), (3, YES)), (((0, 1), (), (2, 3, 4)), 3, False))
        self.check("ask hand hand", 2, ((1, NO), (2, NO)), (((0,), (0,), (1, 2), (1, 2)), 2, False))

    def test_add_and_flush(self):
        self.check("ask add", 2, ((2, NO), (2, NO)), ((), 2, False))
        self.check("ask add flush", 2, ((2, NO), (0, NO), (1, NO)), (((0, 1), (), (2,)), 3, False))
        self.check("ask flush add", 2, ((2, NO), (0, NO), (1, NO)), (((), (0, 1), ()), 3, False))
        self.check("ask add flush flush", 2, ((2, NO),), (((0, 1), ()), 1, False))
        self.check("ask add hand flush", 2, ((2, NO),), (((0, 1), (0, 1)), 1, False))
        self.check("ask add told:flush", 2, ((2, NO), (2, NO), (1, YES)), (((0, 1, 2, 3, 4),), 3, False))

    def test_the_piece_stays_as_it_is(self):
        self.check("ask add flush hand cut full:stop | hand", 2, ((2, NO),), (((0, 1), (0, 1), (0, 1)), 1, True))
        self.check("ask add cut hand stop | hand", 1, ((1, NO),), (((0,), (0,), (0,)), 1, True))

    def test_cut(self):
        self.check("ask add cut", 2, ((1, NO), (1, NO), (2, NO), (1, NO)), (((0, 1), (2, 3)), 4, False))
        self.check("ask add told:cut", 2, ((2, NO), (2, NO), (1, YES)), (((0, 1), (2, 3)), 3, False))
        self.check("ask add told:cut told:flush", 3, ((3, NO), (3, NO), (2, YES)),
                   (((0, 1, 2), (3, 4, 5), (6, 7)), 3, False))
        self.check("ask cut", 1, ((1, NO), (1, NO)), ((), 2, False))
        self.check("ask cut add", 1, ((1, NO), (1, NO)), (((0,),), 2, False))
        self.check("ask add cut flush", 2, ((2, NO), (1, NO)), (((0, 1), (), (2,)), 2, False))
        self.check("ask add cut cut", 2, ((2, NO),), (((0, 1),), 1, False))

    def test_stop(self):
        self.check("ask stop", 2, ((1, NO), (1, NO)), ((), 1, True))
        self.check("ask stop hand", 2, ((1, NO),), ((), 1, True))
        self.check("ask hand stop hand", 2, ((1, NO), (1, NO)), (((0,),), 1, True))
        self.check("ask hand stop | hand flush", 2, ((1, NO),), (((0,), (0,), ()), 1, True))

    def test_again(self):
        self.check("ask again hand stop | hand", 2, ((1, NO), (2, YES), (0, NO)), ((), 3, False))
        self.check("ask hand again stop | hand", 2, ((1, NO), (2, YES)), (((0,), (1, 2)), 2, False))
        self.check("ask empty:again hand", 2, ((0, NO), (2, NO), (0, NO)), (((0, 1),), 3, False))

    def test_the_ending_is_executed_once_and_only_behind_a_stop(self):
        self.check("ask told:stop | flush flush", 2, ((1, NO), (1, YES), (1, YES)), (((), ()), 2, True))
        self.check("ask told:stop | flush", 2, ((1, NO), (1, NO)), ((), 2, False))
        self.check("ask add stop | cut flush", 2, ((2, NO),), (((0, 1), ()), 1, True))
        self.check("ask add told:stop | cut rest:flush bare:hand", 2, ((2, NO), (1, YES)),
                   (((0, 1), (2,), (2,)), 2, True))

    def test_tests_of_the_piece(self):
        replies = ((0, NO), (1, NO), (2, NO), (3, NO))
        self.check("ask empty:hand", 3, replies, (((),), 4, False))
        self.check("ask some:hand", 3, replies, (((0,), (1, 2), (3, 4, 5)), 4, False))
        self.check("ask short:hand", 3, replies, (((), (0,), (1, 2)), 4, False))
        self.check("ask full:hand", 3, replies, (((3, 4, 5),), 4, False))
        self.check("ask full:hand", 1, ((0, NO), (1, NO)), (((0,),), 2, False))
        self.check("ask short:hand", 1, ((0, NO), (1, NO)), (((),), 2, False))

    def test_tests_of_told(self):
        replies = ((1, NO), (1, YES), (0, NO), (0, YES))
        self.check("ask told:hand", 3, replies, (((1,), ()), 4, False))
        self.check("ask open:hand", 3, replies, (((0,), ()), 4, False))

    def test_tests_of_the_rest(self):
        self.check("ask rest:flush add", 3, ((0, NO), (1, NO), (0, NO), (2, NO)), (((0,),), 4, False))
        self.check("ask bare:hand add", 3, ((0, NO), (1, NO), (2, NO)), (((), (0,)), 3, False))
        self.check("ask add cut rest:hand bare:stop", 2, ((1, NO), (1, NO)), (((0,), (0, 1)), 2, True))
        self.check("ask add bare:hand", 3, ((0, NO), (1, NO)), (((),), 2, False))

    def test_tests_in_the_ending(self):
        for told, full, rest in ((NO, NO, NO), (YES, NO, YES), (NO, YES, YES), (YES, YES, NO)):
            count = 2 if full else 1
            items = tuple(range(count))
            text = "ask rest:flush " + ("add " if rest else "") + "stop | "
            for test, passed in {"told": told, "open": not told, "full": full, "short": not full, "some": True,
                                 "empty": False, "rest": rest, "bare": not rest}.items():
                self.check(text + test + ":hand", 2, ((count, told),), ((items,) if passed else (), 1, True))

    def test_early_late_and_never(self):
        replies = ((2, NO), (2, NO), (1, NO), (0, NO), (0, YES))
        self.check("ask some:stop", 2, replies, ((), 1, True))
        self.check("ask hand short:stop", 2, replies, (((0, 1), (2, 3), (4,)), 3, True))
        self.check("ask empty:stop hand", 2, replies, (((0, 1), (2, 3), (4,)), 4, True))
        self.check("ask told:stop hand", 2, replies, (((0, 1), (2, 3), (4,), ()), 5, True))
        self.check("ask hand", 2, replies, (((0, 1), (2, 3), (4,), (), ()), 5, False))

    def test_replies_that_no_source_gives(self):
        loop = "ask add cut told:stop | rest:flush"
        self.check(loop, 2, ((0, NO), (2, NO), (0, NO), (1, YES)), (((0, 1), (2,)), 4, True))
        self.check("ask hand", 2, ((2, YES), (1, NO), (0, YES), (2, NO)), (((0, 1), (2,), (), (3, 4)), 4, False))
        self.check("ask hand", 5, ((1, YES), (5, YES), (3, YES)), (((0,), (1, 2, 3, 4, 5), (6, 7, 8)), 3, False))

    def test_items_that_are_not_handed_on_are_counted_too(self):
        self.check("ask full:hand", 2, ((1, NO), (2, NO), (1, NO), (2, NO)), (((1, 2), (4, 5)), 4, False))

    def test_replies_behind_the_stop_are_looked_at_but_not_used(self):
        self.check("ask stop", 2, ((1, NO),) * 100, ((), 1, True))
        with self.assertRaises(InvalidReplies) as caught:
            Loop("ask stop").run(2, ((1, NO), (3, NO)))
        self.assertEqual(caught.exception.index, 1)

    def test_the_largest_numbers(self):
        self.check("ask hand", 1000, ((1000, NO),), ((tuple(range(1000)),), 1, False))
        self.check("ask hand", 1, ((1, NO),) * 100, (tuple((k,) for k in range(100)), 100, False))
        many = ((1000, NO),) * 99 + ((999, YES),)
        pieces = tuple(tuple(range(k, min(k + 1000, 99999))) for k in range(0, 99999, 1000))
        self.check("ask add cut told:stop | rest:flush", 1000, many, (pieces, 100, True))
        self.check("ask add told:stop | cut rest:flush", 1000, many, (pieces, 100, True))
        self.check("ask add told:stop | flush", 1000, many, ((tuple(range(99999)),), 100, True))

    def test_against_a_plain_execution(self):
        chance = random.Random(5)
        for _ in range(3000):
            text, size = random_text(chance, chance.choice((2, 4, 11)), chance.choice((1, 6))), chance.randint(1, 4)
            replies = tuple((chance.randint(0, size), chance.random() < 0.2) for _ in range(chance.randint(0, 9)))
            self.assertEqual(Loop(text).run(size, replies), execute(text, size, replies), (text, size, replies))

    def test_a_loop_can_be_run_again_and_again(self):
        loop = Loop("ask add cut told:stop | rest:flush")
        for _ in range(3):
            self.assertEqual(loop.run(2, ((1, NO), (2, NO))), (((0, 1),), 2, False))
            self.assertEqual(loop.run(3, ((1, NO), (2, YES))), (((0, 1, 2),), 2, True))


NO_SIZES = [0, -1, -1000, 1001, 1002, 10 ** 19, -10 ** 19, True, False, None, "", "3", b"3", (), (3,), [], [3], {},
            {3: 3}, {3}, object(), int, ..., range(3), [[[]]]]
NO_TUPLES = [None, True, False, 0, 3, "", "ab", b"", [], [(1, False)], {}, {(1, False): 1}, {(1, False)}, object(),
             tuple, range(0), iter(()), ...]
NO_REPLIES = [None, True, False, 0, 1, "", "ab", b"ab", [], [1, False], {}, {1: False, 2: True}, {1, False}, object(),
              (), (1,), (1, False, True), ((1, False),), ((1, False), (1, False)), (True, False), (False, False),
              (None, False), ("1", False), ([1], False), ((1,), False), (-1, False), (10 ** 19, False), (1001, False),
              (1, 0), (1, 1), (1, None), (1, ""), (1, "True"), (1, []), (1, (True,)), (False, 1), (None, None)]
RIGHT = (1, False)


class RunErrorsTest(unittest.TestCase):
    def check(self, error, attribute, expected, size, replies):
        for text in ("ask", "ask stop", "ask hand", "ask add cut told:stop | rest:flush"):
            loop = Loop(text)
            for call in (lambda: loop.run(size, replies), lambda: loop.run(replies=replies, size=size)):
                with self.assertRaises(error) as caught:
                    call()
                self.assertIs(getattr(caught.exception, attribute), expected)
            self.assertEqual(loop.text, text)

    def test_wrong_sizes(self):
        for wrong in NO_SIZES:
            with self.subTest(wrong=wrong):
                self.check(InvalidSize, "value", wrong, wrong, ())
                self.check(InvalidSize, "value", wrong, wrong, (RIGHT,))

    def test_edges_of_the_size(self):
        for size in (1, 2, 999, 1000):
            self.assertEqual(Loop("ask hand").run(size, ((size, False),)), ((tuple(range(size)),), 1, False))
        self.check(InvalidSize, "value", 0, 0, ())
        self.check(InvalidSize, "value", 1001, 1001, ())

    def test_no_tuple_of_replies(self):
        for wrong in NO_TUPLES:
            with self.subTest(wrong=wrong):
                self.check(InvalidReplies, "index", None, 2, wrong)

    def test_wrong_replies(self):
        for wrong in NO_REPLIES:
            with self.subTest(wrong=wrong):
                self.check(InvalidReplies, "index", 0, 2, (wrong,))
                self.check(InvalidReplies, "index", 2, 2, (RIGHT, RIGHT, wrong))
                self.check(InvalidReplies, "index", 1, 2, (RIGHT, wrong, RIGHT, wrong))
                self.check(InvalidReplies, "index", 99, 2, (RIGHT,) * 99 + (wrong,))

    def test_counts_above_the_size(self):
        for size in (1, 2, 5, 999):
            for count in (size + 1, size + 2, 1000):
                self.check(InvalidReplies, "index", 0, size, ((count, False),))
                self.check(InvalidReplies, "index", 1, size, ((size, True), (count, False), (count, True)))
        self.check(InvalidReplies, "index", 0, 1000, ((1001, False),))

    def test_the_number_of_replies(self):
        self.assertEqual(Loop("ask").run(1, (RIGHT,) * 100), ((), 100, False))
        for many in (101, 102, 200):
            self.check(InvalidReplies, "index", None, 1, (RIGHT,) * many)
            self.check(InvalidReplies, "index", None, 1, (None,) * many)

    def test_the_size_is_looked_at_first(self):
        for replies in (None, (None,), ((5, False),), (RIGHT,) * 101):
            for wrong in (0, None, 1001, True):
                self.check(InvalidSize, "value", wrong, wrong, replies)


if __name__ == "__main__":
    unittest.main()
