import itertools
import unittest

from lastshort.errors import InvalidWord
from lastshort.sources import Source

AMOUNTS = ("exact", "short")
PATIENCES = ("prompt", "waiting")
ENDS = ("empty", "with", "behind")
KINDS = list(itertools.product(AMOUNTS, PATIENCES, ENDS))


class AlwaysEqual:
    """Something that a comparison alone would take for a word."""

    def __eq__(self, other):
        return True

    def __hash__(self):
        return 1


NO_WORDS = [
    "", " ", "Exact", "exact ", " short", "exact\n", "shor", "prompt waiting", "exact prompt empty", "none", "both",
    b"exact", b"with", None, True, False, 0, 1, -1, 10 ** 19, (), [], {}, set(), ("exact",), ["short"], {"exact": 1},
    ["prompt"], {"prompt"}, ("with",), {"behind": "with"}, [[["empty"]]], object(), str, len, AlwaysEqual(),
]


class SourceTest(unittest.TestCase):
    def test_there_are_twelve_kinds(self):
        self.assertEqual(len({str(Source(*kind)) for kind in KINDS}), 12)

    def test_kinds_by_place(self):
        for amount, patience, end in KINDS:
            source = Source(amount, patience, end)
            with self.subTest(source=source):
                self.assertEqual((source.amount, source.patience, source.end), (amount, patience, end))

    def test_kinds_by_name(self):
        for amount, patience, end in KINDS:
            source = Source(end=end, amount=amount, patience=patience)
            with self.subTest(source=source):
                self.assertEqual((source.amount, source.patience, source.end), (amount, patience, end))
                self.assertEqual(source, Source(amount, patience=patience, end=end))

    def test_str_and_repr(self):
        for amount, patience, end in KINDS:
            source = Source(amount, patience, end)
            self.assertEqual(str(source), amount + " " + patience + " " + end)
            self.assertEqual(repr(source), "Source(" + amount + " " + patience + " " + end + ")")
        self.assertEqual(repr(Source("exact", "prompt", "empty")), "Source(exact prompt empty)")
        self.assertEqual(repr(Source("short", "prompt", "with")), "Source(short prompt with)")
        self.assertEqual(str(Source("short", "waiting", "behind")), "short waiting behind")

    def test_kinds_are_equal_exactly_if_their_words_are(self):
        for one, other in itertools.product(KINDS, KINDS):
            with self.subTest(one=one, other=other):
                self.assertIs(Source(*one) == Source(*other), one == other)
                self.assertIs(Source(*one) != Source(*other), one != other)

    def test_equal_to_nothing_else(self):
        for kind in KINDS:
            source = Source(*kind)
            others = [str(source), repr(source), kind, list(kind), set(kind), None, True, 1, (), object(), Source,
                      AlwaysEqual(), source.allows]
            for other in others:
                with self.subTest(source=source, other=other):
                    self.assertIs(source == other, False)
                    self.assertIs(source != other, True)

    def test_a_source_is_true(self):
        for kind in KINDS:
            self.assertTrue(Source(*kind))


class InvalidWordTest(unittest.TestCase):
    def check(self, wrong, *words):
        with self.assertRaises(InvalidWord) as caught:
            Source(*words)
        self.assertIs(caught.exception.value, wrong)
        with self.assertRaises(InvalidWord) as caught:
            Source(end=words[2], patience=words[1], amount=words[0])
        self.assertIs(caught.exception.value, wrong)

    def test_no_words(self):
        for wrong in NO_WORDS:
            with self.subTest(wrong=wrong):
                self.check(wrong, wrong, "prompt", "empty")
                self.check(wrong, "exact", wrong, "with")
                self.check(wrong, "short", "waiting", wrong)

    def test_words_of_another_parameter(self):
        for wrong in PATIENCES + ENDS:
            self.check(wrong, wrong, "prompt", "empty")
        for wrong in AMOUNTS + ENDS:
            self.check(wrong, "exact", wrong, "empty")
        for wrong in AMOUNTS + PATIENCES:
            self.check(wrong, "exact", "prompt", wrong)

    def test_words_that_only_tests_of_loops_have(self):
        for wrong in ("some", "full", "told", "open", "rest", "bare"):
            self.check(wrong, wrong, "prompt", "empty")
            self.check(wrong, "exact", wrong, "empty")
            self.check(wrong, "exact", "prompt", wrong)

    def test_the_first_wrong_one_is_named(self):
        for first, second in itertools.permutations([None, [], {}, "no", 0, ("exact",)], 2):
            self.check(first, first, second, "empty")
            self.check(first, first, "prompt", second)
            self.check(first, "exact", first, second)
            self.check(first, first, second, second)
        self.check("prompt", "prompt", "exact", "empty")
        self.check("empty", "exact", "empty", "prompt")


if __name__ == "__main__":
    unittest.main()
