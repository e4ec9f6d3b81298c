import itertools
import random
import time
import unittest

from lastshort.comparing import alike, first_unlike, rounds
from lastshort.errors import InvalidWord, NotALoop
from lastshort.loops import Loop
from lastshort.samples import sample_loop
from walking import ENDING_WORDS, ROUND_WORDS, exact_run, random_text, text_of
from wrong import NO_ENDS, NO_LOOPS, check_error

ENDS = ("empty", "with", "behind")

# Groups of loops; those of one group are alike for the ends that stand before them.
ALIKE = [
    (ENDS, ["ask empty:stop hand", "ask some:hand short:stop", "ask empty:stop some:hand", "ask empty:stop add flush",
            "ask add cut short:stop | rest:flush", "ask add cut empty:stop | rest:flush", "ask add short:stop cut"
            " | cut rest:flush", "ask add empty:stop | cut rest:flush", "ask full:hand full:again stop | some:hand",
            "ask short:stop hand | some:hand", "ask add bare:stop cut rest:flush", "ask full:hand short:add short:stop"
            " | rest:flush"]),
    (("with", "behind"), ["ask some:hand told:stop", "ask add cut told:stop | rest:flush", "ask empty:stop hand",
                          "ask add told:stop cut | cut rest:flush", "ask add open:again stop | cut rest:flush"]),
    (ENDS, ["ask hand", "ask", "ask again stop", "ask add cut", "ask flush | hand", "ask again hand stop | cut"]),
    (ENDS, ["ask stop", "ask stop hand", "ask stop | cut", "ask stop flush | rest:flush", "ask add stop"]),
    (ENDS, ["ask hand stop", "ask stop | hand", "ask add stop | flush", "ask add flush stop", "ask add stop | hand"]),
    (("empty",), ["ask told:stop", "ask hand told:stop", "ask", "ask add told:stop | flush"]),
    (ENDS, ["ask add empty:stop | flush", "ask add short:stop | flush", "ask add empty:flush empty:stop"]),
    (("behind",), ["ask add told:stop | flush", "ask add empty:stop | flush"]),
]
TEXTS = sorted({text for ends, texts in ALIKE for text in texts}) + [
    "ask hand short:stop", "ask told:stop hand", "ask hand told:stop", "ask add told:stop | cut", "ask add told:stop",
    "ask add empty:stop | rest:flush", "ask full:stop hand", "ask add rest:stop", "ask add bare:stop | flush",
    "ask rest:stop add", "ask rest:stop add | flush", "ask rest:stop add hand | cut flush", "ask hand hand empty:stop",
    "ask add bare:stop empty:cut", "ask add bare:stop empty:flush", "ask flush add empty:stop",
    "ask flush add told:stop",
    "ask flush add told:stop | flush", "ask cut add told:stop | cut rest:flush", "ask bare:add told:stop | flush",
    "ask bare:add hand told:stop | flush", "ask full:add told:stop | cut", "ask short:add empty:stop | flush",
    "ask hand add empty:stop | flush", "ask hand add empty:stop | cut", "ask rest:hand bare:add told:stop | hand flush",
]
# Pairs that differ only if at least three or four full pieces come, or for few numbers besides.
LATE = [
    ("ask add bare:stop told:cut bare:cut open:hand | short:cut cut", "ask open:hand cut add bare:stop", "with",
     (4, 1)),
    ("ask add open:hand empty:cut bare:stop | full:hand empty:hand",
     "ask open:hand rest:cut bare:add bare:stop | told:hand rest:flush", "with", (4, 1)),
    ("ask open:hand rest:stop add", "ask rest:stop told:add bare:hand", "with", (4, 1)),
    ("ask short:stop hand cut told:hand add | cut", "ask open:add short:stop hand | short:cut", "empty", (3, 1)),
    ("ask full:add bare:again short:stop | short:cut", "ask full:hand rest:stop short:again add", "empty", (3, 1)),
    ("ask some:add some:hand told:cut bare:stop", "ask open:hand cut open:add bare:stop", "behind", (3, 1)),
    ("ask short:stop short:stop rest:hand add", "ask rest:stop full:add short:stop | full:hand", "behind", (3, 1)),
]


def outcome(text, end, items, size):
    run = exact_run(text, end, items, size)
    return run and run[0]


class Plain:
    """Plain runs for all numbers of items up to some, and all sizes that matter; each is made once."""

    def __init__(self, most):
        self.most = most
        self.outcomes = {}

    def of(self, text, end):
        if (text, end) not in self.outcomes:
            self.outcomes[text, end] = {
                (items, size): outcome(text, end, items, size)
                for items in range(self.most + 1) for size in range(1, items + 3)}
        return self.outcomes[text, end]

    def first(self, text, other, end):
        one, two = self.of(text, end), self.of(other, end)
        return next((numbers for numbers in one if one[numbers] != two[numbers]), None)


def changed(chance, text):
    """A text with a word more, a word less, or another word; it may be none of a loop."""
    first, _, last = text.partition(" | ")
    first, last = first.split()[1:], last.split()
    row, words = chance.choice([(first, ROUND_WORDS), (last, ENDING_WORDS)])
    place = chance.randint(0, len(row))
    way = chance.randrange(3)
    row[place:place + (way != 0)] = [chance.choice(words)] if way != 1 else []
    text = text_of(first, last)
    return text if text.count("add") <= 1 and len(first) < 12 and len(last) < 7 else text_of([], [])


class FirstUnlikeTest(unittest.TestCase):
    def check(self, plain, text, other, end):
        one, two = Loop(text), Loop(other)
        expected = plain.first(text, other, end)
        found = first_unlike(one, two, end)
        with self.subTest(text=text, other=other, end=end):
            if expected is None and found is not None:
                # It lies beyond the plain runs, so it is looked at by itself.
                self.assertGreater(found[0], plain.most)
                self.assertNotEqual(outcome(text, end, *found), outcome(other, end, *found))
            else:
                self.assertEqual(found, expected)
            self.assertEqual(first_unlike(two, one, end), found)
            self.assertIs(alike(one, two, end), found is None)
            self.assertIs(alike(two, one, end), found is None)
        return found

    def test_examples_of_the_document(self):
        one, two = Loop("ask empty:stop hand"), Loop("ask some:hand short:stop")
        self.assertIs(alike(one, two, "empty"), True)
        self.assertEqual(first_unlike(one, Loop("ask hand short:stop"), "empty"), (0, 1))
        self.assertEqual(first_unlike(one, Loop("ask add empty:stop | rest:flush"), "behind"), (2, 1))

    def test_loops_written_otherwise_that_do_the_same(self):
        plain = Plain(9)
        for ends, texts in ALIKE:
            for end, text, other in itertools.product(ends, texts, texts):
                self.assertIsNone(self.check(plain, text, other, end), (text, other, end))

    def test_all_pairs_of_known_loops(self):
        plain, unlike = Plain(9), 0
        for end, (text, other) in itertools.product(ENDS, itertools.combinations_with_replacement(TEXTS, 2)):
            unlike += self.check(plain, text, other, end) is not None
        self.assertGreater(unlike, 1000)

    def test_a_loop_and_itself(self):
        plain, chance = Plain(6), random.Random(21)
        for text in TEXTS + [random_text(chance, 11, 6) for _ in range(60)]:
            for end in ENDS:
                self.assertIsNone(self.check(plain, text, text, end))

    def test_a_loop_and_one_changed_by_a_word(self):
        plain, chance = Plain(7), random.Random(22)
        texts = TEXTS + [random_text(chance, 6, 3) for _ in range(40)] + [random_text(chance, 11, 6) for _ in range(20)]
        found = {None: 0, "unlike": 0}
        for text in texts:
            for other in [changed(chance, text) for _ in range(3)]:
                for end in ENDS:
                    found[self.check(plain, text, other, end) and "unlike"] += 1
        self.assertGreater(min(found.values()), 100)

    def test_pairs_of_short_loops(self):
        # Of so many short loops there are always some that do the same, and some that do nearly the same.
        plain, chance = Plain(6), random.Random(23)
        texts = [random_text(chance, 3, 1) for _ in range(36)]
        for end, (text, other) in itertools.product(ENDS, itertools.combinations(texts, 2)):
            self.check(plain, text, other, end)

    def test_alike_loops_are_so_for_great_numbers_too(self):
        for ends, texts in ALIKE:
            for end, text in itertools.product(ends, texts[1:]):
                for items, size in [(40, 1), (41, 1), (80, 2), (81, 2), (100, 7), (98, 7), (59, 60), (61, 60)]:
                    self.assertEqual(outcome(text, end, items, size), outcome(texts[0], end, items, size), (text, end))

    def test_each_least_number_that_is_found(self):
        for text, other, end, expected in [
            ("ask stop", "ask", "empty", (0, 1)),
            ("ask stop", "ask hand stop", "with", (0, 1)),
            ("ask stop", "ask some:hand stop", "with", (1, 1)),
            ("ask empty:stop hand", "ask empty:stop full:hand", "empty", (1, 2)),
            ("ask empty:stop hand", "ask told:stop some:hand", "with", (1, 1)),
            ("ask empty:stop hand", "ask empty:stop hand told:stop", "with", None),
            ("ask add cut empty:stop | rest:flush", "ask add cut empty:stop", "empty", (1, 2)),
            ("ask add empty:stop | flush", "ask add empty:stop | cut flush", "empty", (1, 1)),
            ("ask add empty:stop | rest:flush", "ask add empty:stop | cut rest:flush", "behind", (2, 1)),
            ("ask add empty:flush empty:stop", "ask add empty:cut empty:stop | flush", "behind", (1, 1)),
            ("ask hand rest:stop add", "ask hand full:stop", "empty", (1, 1)),
            ("ask add some:hand told:stop", "ask rest:hand bare:hand add told:stop", "with", (0, 1)),
        ]:
            self.assertEqual(self.check(Plain(6), text, other, end), expected)

    def test_loops_that_differ_late(self):
        plain = Plain(9)
        for text, other, end, expected in LATE:
            self.assertEqual(self.check(plain, text, other, end), expected)

    def test_kinds_of_the_results(self):
        found = first_unlike(Loop("ask stop"), Loop("ask"), "empty")
        self.assertEqual([type(found)] + [type(number) for number in found], [tuple, int, int])

    def test_asking_changes_nothing(self):
        one, two = Loop("ask add cut told:stop | flush"), Loop("ask hand told:stop")
        first = [first_unlike(one, two, end) for end in ENDS] + [rounds(one, end) for end in ENDS]
        self.assertEqual([first_unlike(one, two, end) for end in ENDS] + [rounds(one, end) for end in ENDS], first)
        self.assertEqual((one.text, two.text), ("ask add cut told:stop | flush", "ask hand told:stop"))


class RoundsTest(unittest.TestCase):
    def check(self, text, end, most=11):
        forms = rounds(Loop(text), end)
        self.assertEqual(len(forms), 2)
        for parts, (table, step) in enumerate(forms):
            self.assertEqual((type(table), len(table), step in (0, 1)), (tuple, 5, True), (text, end))
            for many, size in itertools.product(range(most + 1), (1, 2, 3, 5)):
                for items in range(many * size + 1, many * size + size) if parts else [many * size]:
                    run = exact_run(text, end, items, size)
                    expected = table[many] if many < 5 else table[4] and table[4] + step * (many - 4)
                    self.assertEqual(expected, run and run[1], (text, end, items, size))
            if table[4] is None:
                self.assertEqual(step, 0)
        return forms

    def test_examples_of_the_document(self):
        never = ((None,) * 5, 0)
        self.assertEqual(rounds(Loop("ask empty:stop hand"), "empty"), (((1, 2, 3, 4, 5), 1), ((2, 3, 4, 5, 6), 1)))
        self.assertEqual(rounds(Loop("ask some:hand short:stop"), "empty"),
                         (((1, 2, 3, 4, 5), 1), ((1, 2, 3, 4, 5), 1)))
        self.assertEqual(rounds(Loop("ask hand told:stop"), "empty"), (never, never))

    def test_known_ones(self):
        never, once, each = ((None,) * 5, 0), ((1,) * 5, 0), ((1, 2, 3, 4, 5), 1)
        later = ((2, 3, 4, 5, 6), 1)
        for text, end, expected in [
            ("ask", "with", (never, never)),
            ("ask stop", "empty", (once, once)),
            ("ask told:stop", "with", (((1, 1, 2, 3, 4), 1), each)),
            ("ask told:stop", "behind", (each, later)),
            ("ask told:stop", "empty", (never, never)),
            ("ask full:stop", "empty", (((None, 1, 1, 1, 1), 0), ((None, 1, 1, 1, 1), 0))),
            ("ask short:stop", "with", (each, each)),
            ("ask rest:stop add", "empty", (((None, 2, 2, 2, 2), 0), ((2, 2, 2, 2, 2), 0))),
            ("ask rest:stop full:add told:stop", "with", (((1, 1, 2, 2, 2), 0), ((1, 2, 2, 2, 2), 0))),
            ("ask add bare:stop empty:flush", "empty",
             (((1, 3, 4, 5, 6), 1), ((3, 4, 5, 6, 7), 1))),
            ("ask add bare:stop empty:cut", "empty", (((1, 3, 4, 5, 6), 1), never)),
            ("ask add open:again rest:stop", "with", (((None, 1, 2, 3, 4), 1), each)),
        ]:
            with self.subTest(text=text, end=end):
                self.assertEqual(self.check(text, end), expected)

    def test_known_loops_against_plain_runs(self):
        for text, end in itertools.product(TEXTS, ENDS):
            self.check(text, end)

    def test_other_loops_against_plain_runs(self):
        chance = random.Random(24)
        seen = set()
        for most, many in ((2, 60), (5, 60), (11, 40)):
            for _ in range(many):
                text = random_text(chance, most, 3)
                for end in ENDS:
                    seen.update((None in table, step) for table, step in self.check(text, end, 7))
        self.assertEqual(seen, {(True, 0), (True, 1), (False, 0), (False, 1)})

    def test_great_numbers(self):
        for text, end in itertools.product(TEXTS[:20], ENDS):
            (table, step), (other_table, other_step) = rounds(Loop(text), end)
            run, other = exact_run(text, end, 60, 1), exact_run(text, end, 121, 2)
            self.assertEqual(run and run[1], table[4] and table[4] + 56 * step)
            self.assertEqual(other and other[1], other_table[4] and other_table[4] + 56 * other_step)


class ComparingErrorsTest(unittest.TestCase):
    def check(self, error, wrong, act, **arguments):
        check_error(self, error, "value", wrong, act, **arguments)

    def test_no_loops(self):
        for wrong in NO_LOOPS:
            with self.subTest(wrong=type(wrong)):
                for end in ("empty", "no", None, []):
                    self.check(NotALoop, wrong, rounds, loop=wrong, end=end)
                    for act in (first_unlike, alike):
                        self.check(NotALoop, wrong, act, loop=wrong, other_loop=sample_loop(), end=end)
                        self.check(NotALoop, wrong, act, loop=sample_loop(), other_loop=wrong, end=end)

    def test_the_first_of_two_that_are_no_loops(self):
        for wrong, other in itertools.permutations(NO_LOOPS[:12], 2):
            for act in (first_unlike, alike):
                self.check(NotALoop, wrong, act, loop=wrong, other_loop=other, end="empty")

    def test_no_ends(self):
        for wrong in NO_ENDS:
            with self.subTest(wrong=type(wrong)):
                self.check(InvalidWord, wrong, rounds, loop=sample_loop(), end=wrong)
                for act in (first_unlike, alike):
                    self.check(InvalidWord, wrong, act, loop=sample_loop(), other_loop=sample_loop(), end=wrong)
                    self.check(InvalidWord, wrong, act, loop=Loop("ask"), other_loop=Loop("ask stop"), end=wrong)

    def test_by_keyword(self):
        one, two = Loop("ask empty:stop hand"), Loop("ask hand short:stop")
        self.assertEqual(first_unlike(end="empty", other_loop=two, loop=one), (0, 1))
        self.assertIs(alike(end="empty", other_loop=two, loop=one), False)
        self.assertIs(alike(one, end="with", other_loop=one), True)
        self.assertEqual(rounds(end="empty", loop=two), (((1, 2, 3, 4, 5), 1), ((1, 2, 3, 4, 5), 1)))


class LongestComparedTest(unittest.TestCase):
    def test_loops_of_the_greatest_length_answer_soon(self):
        chance, plain = random.Random(25), Plain(4)
        start = time.monotonic()
        texts = ["ask add hand hand hand hand hand hand hand hand hand short:stop | cut rest:flush flush hand cut hand",
                 "ask add hand hand hand hand hand hand hand hand hand short:stop | cut rest:flush flush cut hand hand"]
        while len(texts) < 40:
            first = [chance.choice([word for word in ROUND_WORDS if not word.endswith("add")]) for _ in range(11)]
            first[chance.randrange(11)] = chance.choice([word for word in ROUND_WORDS if word.endswith("add")])
            texts.append(text_of(first, [chance.choice(ENDING_WORDS) for _ in range(6)]))
        for text in texts:
            self.assertEqual(len(Loop(text)), 18)
        for end in ENDS:
            self.assertIsNone(first_unlike(Loop(texts[0]), Loop(texts[1]), end))
            for text, other in itertools.combinations_with_replacement(texts, 2):
                found = first_unlike(Loop(text), Loop(other), end)
                expected = plain.first(text, other, end)
                if expected is not None or (found is not None and found[0] <= 4):
                    self.assertEqual(found, expected, (text, other, end))
            for text in texts:
                RoundsTest.check(self, text, end, 6)
        # Far more than is needed; a search without an end is still found out.
        self.assertLess(time.monotonic() - start, 120)


if __name__ == "__main__":
    unittest.main()
