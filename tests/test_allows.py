import itertools
import unittest

from lastshort.errors import InvalidItems, InvalidReplies, InvalidSize
from lastshort.sources import Source

KINDS = list(itertools.product(("exact", "short"), ("prompt", "waiting"), ("empty", "with", "behind")))
NO, YES = False, True

# For each kind, with 5 items and the size 2: rows that it can begin with, and rows that it cannot.
FIVE_BY_TWO = {
    "exact prompt empty": (
        [((2, NO),), ((2, NO), (2, NO)), ((2, NO), (2, NO), (1, NO)), ((2, NO), (2, NO), (1, NO), (0, NO), (0, NO))],
        [((1, NO),), ((0, NO),), ((3, NO),), ((2, YES),), ((2, NO), (2, NO), (2, NO)), ((2, NO), (0, NO), (2, NO)),
         ((2, NO), (2, NO), (1, YES)), ((2, NO), (2, NO), (1, NO), (0, YES)), ((2, NO), (2, NO), (1, NO), (1, NO))],
    ),
    "exact prompt with": (
        [((2, NO),), ((2, NO), (2, NO), (1, YES)), ((2, NO), (2, NO), (1, YES), (0, YES), (0, YES))],
        [((1, NO),), ((2, YES),), ((2, NO), (2, YES)), ((2, NO), (2, NO), (1, NO)), ((0, NO), (2, NO)),
         ((2, NO), (2, NO), (1, YES), (0, NO)), ((2, NO), (2, NO), (1, YES), (1, YES)), ((5, YES),)],
    ),
    "exact prompt behind": (
        [((2, NO), (2, NO), (1, NO)), ((2, NO), (2, NO), (1, NO), (0, YES), (0, YES))],
        [((1, NO),), ((2, YES),), ((2, NO), (2, NO), (1, YES)), ((2, NO), (2, NO), (1, NO), (0, NO)), ((0, YES),),
         ((2, NO), (2, NO), (1, NO), (0, YES), (0, NO)), ((2, NO), (2, NO), (0, NO))],
    ),
    "exact waiting empty": (
        [((0, NO), (2, NO), (0, NO), (0, NO), (2, NO), (1, NO), (0, NO)), ((2, NO), (2, NO), (1, NO), (0, NO))],
        [((0, NO), (1, NO)), ((0, YES),), ((2, NO), (0, NO), (3, NO)), ((2, NO), (2, NO), (0, NO), (2, NO))],
    ),
    "exact waiting with": (
        [((0, NO), (2, NO), (0, NO), (2, NO), (0, NO), (1, YES), (0, YES)), ((2, NO), (2, NO), (1, YES), (0, YES))],
        [((0, YES),), ((2, NO), (2, NO), (0, YES)), ((2, NO), (2, NO), (0, NO), (1, NO)), ((0, NO), (1, NO)),
         ((2, NO), (2, NO), (1, YES), (0, NO))],
    ),
    "exact waiting behind": (
        [((0, NO), (2, NO), (0, NO), (2, NO), (0, NO), (1, NO), (0, YES)), ((2, NO), (2, NO), (1, NO), (0, YES))],
        [((0, YES),), ((2, NO), (2, NO), (0, YES)), ((2, NO), (2, NO), (0, NO), (1, YES)), ((1, NO),),
         ((2, NO), (2, NO), (1, NO), (0, NO))],
    ),
    "short prompt empty": (
        [((1, NO), (2, NO), (1, NO), (1, NO), (0, NO)), ((1, NO),) * 5 + ((0, NO),) * 3, ((2, NO), (2, NO), (1, NO))],
        [((3, NO),), ((0, NO),), ((1, YES),), ((2, NO), (0, NO)), ((2, NO), (2, NO), (2, NO)), ((1, NO),) * 6,
         ((2, NO), (1, NO), (2, YES)), ((2, NO), (1, NO), (2, NO), (0, YES))],
    ),
    "short prompt with": (
        [((1, NO), (2, NO), (1, NO), (1, YES), (0, YES)), ((1, NO), (2, NO), (2, YES)), ((1, NO),) * 4 + ((1, YES),)],
        [((3, NO),), ((0, NO),), ((1, YES),), ((1, NO),) * 5, ((1, NO), (2, NO), (2, NO)), ((2, NO), (0, NO)),
         ((1, NO), (2, NO), (2, YES), (0, NO)), ((1, NO), (2, NO), (1, YES))],
    ),
    "short prompt behind": (
        [((1, NO),) * 5 + ((0, YES),) * 4, ((2, NO), (1, NO), (2, NO), (0, YES))],
        [((3, NO),), ((0, NO),), ((0, YES),), ((1, NO), (2, NO), (2, YES)), ((1, NO), (2, NO), (2, NO), (0, NO)),
         ((1, NO),) * 6],
    ),
    "short waiting empty": (
        [((0, NO), (1, NO), (0, NO), (2, NO), (1, NO), (0, NO), (1, NO), (0, NO)), ((2, NO), (2, NO), (1, NO))],
        [((0, YES),), ((3, NO),), ((0, NO), (3, NO)), ((2, NO), (2, NO), (0, NO), (2, NO)), ((1, NO), (1, YES))],
    ),
    "short waiting with": (
        [((0, NO), (1, NO), (0, NO), (2, NO), (0, NO), (2, YES), (0, YES)), ((1, NO), (2, NO), (1, NO), (1, YES))],
        [((0, YES),), ((3, NO),), ((1, NO), (2, NO), (0, NO), (2, NO)), ((1, NO), (2, NO), (0, YES), (2, YES)),
         ((1, NO), (2, NO), (2, YES), (0, NO))],
    ),
    "short waiting behind": (
        [((0, NO), (1, NO), (0, NO), (2, NO), (0, NO), (2, NO), (0, YES)), ((1, NO),) * 5 + ((0, YES),)],
        [((0, YES),), ((3, NO),), ((1, NO), (2, NO), (2, YES)), ((1, NO), (2, NO), (0, YES)),
         ((1, NO), (2, NO), (2, NO), (0, NO))],
    ),
}


def source_of(text):
    return Source(*text.split())


def possible_rows(kind, items, size, length):
    """All rows of this length, built from point 6 by the numbers of the items that each reply hands out."""
    amount, patience, end = kind
    rows = {(): 0}
    for _ in range(length):
        longer = {}
        for row, start in rows.items():
            whole = tuple(range(items))[start:start + size]
            handed = [whole] if amount == "exact" else [whole[:k] for k in range(1, len(whole) + 1)]
            if patience == "waiting" or not whole:
                handed.append(())
            for piece in handed:
                nothing_left = not whole
                has_last = bool(piece) and piece[-1] == items - 1
                told = {"empty": False, "with": has_last or nothing_left, "behind": nothing_left}[end]
                longer[row + ((len(piece), told),)] = start + len(piece)
        rows = longer
    return set(rows)


def changed(row, place, reply):
    return row[:place] + (reply,) + row[place + 1:]


class AllowsTest(unittest.TestCase):
    def check(self, text, items, size, replies, expected):
        with self.subTest(source=text, items=items, size=size, replies=replies):
            self.assertIs(source_of(text).allows(items, size, replies), expected)

    def test_rows_written_by_hand(self):
        self.assertEqual(sorted(FIVE_BY_TWO), sorted(" ".join(kind) for kind in KINDS))
        for text, (possible, impossible) in FIVE_BY_TWO.items():
            for replies in possible:
                self.check(text, 5, 2, replies, True)
            for replies in impossible:
                self.check(text, 5, 2, replies, False)

    def test_another_told_is_never_allowed(self):
        for text, (possible, _) in FIVE_BY_TWO.items():
            for replies in possible:
                for place, (count, told) in enumerate(replies):
                    self.check(text, 5, 2, changed(replies, place, (count, not told)), False)

    def test_too_many_items_in_one_reply_are_never_allowed(self):
        for text, (possible, _) in FIVE_BY_TWO.items():
            for replies in possible:
                for place, (_, told) in enumerate(replies):
                    for count in (3, 5, 6, 1000):
                        self.check(text, 5, 2, changed(replies, place, (count, told)), False)

    def test_another_count_of_an_exact_prompt_source_is_never_allowed(self):
        for text, (possible, _) in FIVE_BY_TWO.items():
            if text.startswith("exact prompt"):
                for replies in possible:
                    for place, (right, told) in enumerate(replies):
                        for count in {0, 1, 2, 3} - {right}:
                            self.check(text, 5, 2, changed(replies, place, (count, told)), False)

    def test_against_all_possible_rows(self):
        replies = list(itertools.product(range(5), (False, True)))
        for kind in KINDS:
            source = Source(*kind)
            for items, size, length in itertools.product(range(5), range(1, 5), range(4)):
                possible = possible_rows(kind, items, size, length)
                allowed = {row for row in itertools.product(replies, repeat=length) if source.allows(items, size, row)}
                self.assertEqual(allowed, possible, (kind, items, size, length))

    def test_longer_rows_and_one_reply_changed(self):
        for kind in KINDS:
            source = Source(*kind)
            for items, size in [(0, 3), (1, 1), (3, 1), (4, 2), (5, 2), (5, 3), (3, 5)]:
                possible = possible_rows(kind, items, size, 5)
                for row in possible:
                    for place, count, told in itertools.product(range(5), range(4), (False, True)):
                        other = changed(row, place, (count, told))
                        self.assertIs(source.allows(items, size, other), other in possible, (kind, items, size, other))

    def test_the_result_is_a_bool(self):
        for kind in KINDS:
            self.assertIs(Source(*kind).allows(3, 2, ()), True)
            self.assertIs(Source(*kind).allows(3, 2, ((3, False),)), False)


class AllowsEdgesTest(unittest.TestCase):
    def check(self, kind, items, size, replies, expected):
        with self.subTest(kind=kind, items=items, size=size):
            self.assertIs(Source(*kind).allows(items, size, replies), expected)

    def test_the_empty_tuple(self):
        for kind in KINDS:
            for items, size in itertools.product((0, 1, 2, 999, 1000), (1, 2, 999, 1000)):
                self.check(kind, items, size, (), True)

    def test_no_items(self):
        for kind in KINDS:
            told = kind[2] != "empty"
            for size in (1, 5, 1000):
                for many in (1, 2, 99, 100):
                    self.check(kind, 0, size, ((0, told),) * many, True)
                    self.check(kind, 0, size, ((0, told),) * (many - 1) + ((0, not told),), False)
                self.check(kind, 0, size, ((1, told),), False)
                self.check(kind, 0, size, ((1, not told),), False)
                self.check(kind, 0, size, ((1000, told),), False)

    def test_long_rows_of_empty_replies(self):
        for kind in KINDS:
            waiting = kind[1] == "waiting"
            for many in (1, 50, 99, 100):
                self.check(kind, 4, 2, ((0, False),) * many, waiting)
                self.check(kind, 4, 2, ((2, False),) + ((0, False),) * (many - 1), waiting or many == 1)
                self.check(kind, 4, 2, ((0, False),) * (many - 1) + ((0, True),), False)
            last = ((2, kind[2] == "with"),)
            self.check(kind, 2, 2, ((0, False),) * 99 + last, waiting)

    def test_replies_behind_the_last_item(self):
        for kind in KINDS:
            with_last, behind = kind[2] == "with", kind[2] != "empty"
            row = ((2, False), (2, with_last))
            self.check(kind, 4, 2, row, True)
            self.check(kind, 4, 2, row + ((0, behind),) * 98, True)
            self.check(kind, 4, 2, row + ((0, not behind),), False)
            self.check(kind, 4, 2, row + ((0, behind),) * 97 + ((0, not behind),), False)
            self.check(kind, 4, 2, row + ((1, behind),), False)
            self.check(kind, 4, 2, row + ((0, behind), (2, behind)), False)

    def test_told_with_the_last_item_and_behind_it(self):
        for tolds in itertools.product((False, True), repeat=3):
            row = tuple(zip((2, 1, 0), tolds))
            for kind in KINDS:
                expected = {"empty": (False, False, False), "with": (False, True, True),
                            "behind": (False, False, True)}[kind[2]]
                self.check(kind, 3, 2, row, tolds == expected)

    def test_a_part_and_a_full_piece(self):
        for kind in KINDS:
            short = kind[0] == "short"
            self.check(kind, 9, 4, ((4, False),), True)
            self.check(kind, 9, 4, ((3, False),), short)
            self.check(kind, 9, 4, ((1, False),), short)
            self.check(kind, 9, 4, ((5, False),), False)
            self.check(kind, 9, 4, ((9, False),), False)
            self.check(kind, 9, 4, ((4, False), (4, False), (1, kind[2] == "with")), True)
            self.check(kind, 9, 4, ((4, False), (4, False), (2, kind[2] == "with")), False)
            self.check(kind, 9, 4, ((4, False), (3, False), (2, kind[2] == "with")), short)
            self.check(kind, 3, 4, ((3, kind[2] == "with"),), True)
            self.check(kind, 3, 4, ((4, kind[2] == "with"),), False)

    def test_the_largest_numbers(self):
        for kind in KINDS:
            last = kind[2] == "with"
            self.check(kind, 1000, 1000, ((1000, last),), True)
            self.check(kind, 1000, 1000, ((999, False), (1, last)), kind[0] == "short")
            self.check(kind, 999, 1000, ((1000, last),), False)
            self.check(kind, 1000, 999, ((1000, last),), False)
            self.check(kind, 1000, 1, ((1, False),) * 100, True)
            self.check(kind, 100, 1, ((1, False),) * 99 + ((1, last),), True)
            self.check(kind, 100, 1, ((1, False),) * 99 + ((1, not last),), False)

    def test_by_keyword(self):
        source = Source("short", "prompt", "with")
        replies = ((2, False), (2, True))
        self.assertIs(source.allows(items=4, size=3, replies=replies), True)
        self.assertIs(source.allows(replies=replies, size=3, items=5), False)
        self.assertIs(source.allows(4, replies=replies, size=1), False)

    def test_asking_changes_nothing(self):
        source = Source("exact", "prompt", "with")
        for _ in range(3):
            self.assertIs(source.allows(2, 1, ((1, False),)), True)
            self.assertIs(source.allows(2, 1, ((1, True),)), False)
            self.assertEqual(source, Source("exact", "prompt", "with"))

    def test_examples_of_the_document(self):
        source = Source("short", "prompt", "with")
        answers = [
            source.allows(4, 3, ((2, False), (2, True))),
            source.allows(4, 3, ((2, False), (2, False))),
            source.allows(0, 5, ((0, True), (0, True))),
        ]
        self.assertEqual(answers, [True, False, True])
        self.assertEqual(repr(source), "Source(short prompt with)")


NO_NUMBERS = [
    True, False, None, "", "3", "abc", b"3", [], [3], (), (3,), {}, {3: 3}, {3}, object(), int, -1, -1000, 1001,
    10 ** 19, -10 ** 19, [[[]]], (1, 2), range(3), ...,
]
NO_TUPLES = [
    None, True, False, 0, 3, -1, "", "ab", b"", [], [(1, False)], [[1, False]], {}, {(1, False): 1}, {(1, False)},
    object(), tuple, range(0), iter(()), ...,
]
NO_REPLIES = [
    None, True, False, 0, 1, -1, "", "ab", b"ab", [], [1, False], {}, {1: False, 2: True}, {1, False}, object(), ...,
    (), (1,), (False,), (1, False, True), (1, False, None), ((1, False),), ((1, False), (1, False)),
    (True, False), (False, False), (None, False), ("1", False), (b"1", False), ([1], False), ((1,), False),
    ({}, False), (-1, False), (-1000, False), (1001, False), (10 ** 19, False),
    (1, 0), (1, 1), (1, None), (1, ""), (1, "True"), (1, []), (1, ()), (1, (True,)), (False, 1), (None, None),
]
RIGHT = (1, False)


class AllowsErrorsTest(unittest.TestCase):
    def setUp(self):
        self.sources = [Source(*kind) for kind in KINDS]

    def check(self, error, attribute, expected, items, size, replies):
        for source in self.sources:
            with self.assertRaises(error) as caught:
                source.allows(items, size, replies)
            self.assertIs(getattr(caught.exception, attribute), expected)
            with self.assertRaises(error) as caught:
                source.allows(replies=replies, size=size, items=items)
            self.assertIs(getattr(caught.exception, attribute), expected)

    def test_wrong_items(self):
        for wrong in NO_NUMBERS:
            with self.subTest(wrong=wrong):
                self.check(InvalidItems, "value", wrong, wrong, 1, ())

    def test_wrong_sizes(self):
        for wrong in NO_NUMBERS + [0]:
            with self.subTest(wrong=wrong):
                self.check(InvalidSize, "value", wrong, 1, wrong, ())

    def test_edges_of_items_and_size(self):
        for source in self.sources:
            for items in (0, 1, 1000):
                self.assertIs(source.allows(items, 1, ()), True)
            for size in (1, 2, 1000):
                self.assertIs(source.allows(0, size, ()), True)
        self.check(InvalidItems, "value", 1001, 1001, 1, ())
        self.check(InvalidSize, "value", 0, 1, 0, ())
        self.check(InvalidSize, "value", 1001, 1, 1001, ())

    def test_no_tuple_of_replies(self):
        for wrong in NO_TUPLES:
            with self.subTest(wrong=wrong):
                self.check(InvalidReplies, "index", None, 3, 2, wrong)

    def test_wrong_replies(self):
        for wrong in NO_REPLIES:
            with self.subTest(wrong=wrong):
                self.check(InvalidReplies, "index", 0, 3, 2, (wrong,))
                self.check(InvalidReplies, "index", 2, 3, 2, (RIGHT, RIGHT, wrong))
                self.check(InvalidReplies, "index", 1, 3, 2, (RIGHT, wrong, RIGHT, wrong, None))
                self.check(InvalidReplies, "index", 99, 3, 2, (RIGHT,) * 99 + (wrong,))

    def test_a_wrong_reply_behind_an_impossible_one(self):
        self.check(InvalidReplies, "index", 1, 3, 2, ((900, True), None))
        self.check(InvalidReplies, "index", 3, 0, 1, ((5, False), (6, True), (7, False), (8, 0)))

    def test_too_many_replies_are_found_out_first(self):
        for many in (101, 102, 150):
            self.check(InvalidReplies, "index", None, 3, 2, (RIGHT,) * many)
            self.check(InvalidReplies, "index", None, 3, 2, (None,) + (RIGHT,) * (many - 1))
            self.check(InvalidReplies, "index", None, 3, 2, (None,) * many)
        self.check(InvalidReplies, "index", 0, 3, 2, (None,) * 100)

    def test_edges_of_replies(self):
        for source in self.sources:
            self.assertIs(source.allows(3, 2, ((1000, False),)), False)
            self.assertIs(source.allows(3, 2, ((1000, True),)), False)
            self.assertIs(source.allows(3, 2, (RIGHT,) * 100), False)
        self.check(InvalidReplies, "index", 0, 3, 2, ((1001, False),))
        self.check(InvalidReplies, "index", 0, 3, 2, ((-1, False),))

    def test_the_order_of_the_errors(self):
        for items, size, replies in itertools.product((-1, True, "5", None, 1001), (0, False, [], 1001), ((0,), None)):
            self.check(InvalidItems, "value", items, items, size, replies)
            self.check(InvalidItems, "value", items, items, size, ())
            self.check(InvalidItems, "value", items, items, 1, replies)
            self.check(InvalidSize, "value", size, 1, size, replies)


if __name__ == "__main__":
    unittest.main()
