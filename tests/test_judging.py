import itertools
import random
import unittest

from lastshort.errors import InvalidName, NotALoop, NotASource
from lastshort.judging import always, failing, fault, needless
from lastshort.loops import Loop
from lastshort.samples import sample_loop, sample_source
from lastshort.sources import Source
from walking import ENDING_WORDS, KINDS, NAMES, ROUND_WORDS, is_uneven, least_faults, random_text, text_of
from wrong import NO_LOOPS, NO_NAMES, NO_SOURCES, check_error

NO, YES = False, True
SOURCES = {kind: Source(*kind.split()) for kind in KINDS}

# Loops as they are written, and loops that are nearly right.
KNOWN = [
    "ask empty:stop hand", "ask hand short:stop", "ask some:hand short:stop", "ask told:stop hand",
    "ask hand told:stop", "ask some:hand told:stop", "ask add cut told:stop | rest:flush",
    "ask add cut empty:stop | rest:flush", "ask add told:stop | flush", "ask add told:stop | cut rest:flush",
    "ask add hand told:stop", "ask add empty:stop hand | rest:flush", "ask stop", "ask", "ask hand", "ask again stop",
    "ask add cut told:stop | flush", "ask add cut told:stop", "ask add bare:stop cut", "ask add cut bare:stop | flush",
    "ask full:hand short:add told:stop | rest:flush", "ask full:add short:stop | rest:flush some:hand",
    "ask add rest:stop | cut flush", "ask full:stop add | flush", "ask add cut hand told:stop | flush",
    "ask bare:add full:flush told:stop", "ask hand add told:stop | cut", "ask add hand cut told:stop",
    "ask add short:cut told:stop | cut rest:flush", "ask add full:flush told:stop | rest:flush",
    "ask flush add cut told:stop | rest:flush", "ask rest:hand some:add bare:stop full:cut",
]

# Least faults with many items, which few loops have.
FAR = [
    ("ask short:add bare:again short:again bare:stop open:cut bare:flush", "short prompt with", "even",
     (9, 2, ((1, NO), (1, NO), (2, NO), (1, NO), (1, NO), (2, NO)))),
    ("ask add rest:cut rest:cut short:again rest:hand short:stop rest:again short:flush cut told:stop",
     "short waiting with", "whole", (6, 2, ((1, NO), (2, NO), (1, NO), (2, YES)))),
    ("ask full:flush some:cut full:stop short:add told:again bare:flush", "short prompt with", "even",
     (7, 3, ((2, NO), (2, NO), (3, YES)))),
    ("ask bare:add short:again rest:cut bare:cut rest:stop | rest:flush some:hand short:hand", "short waiting empty",
     "whole", (4, 2, ((1, NO), (2, NO)))),
    ("ask some:cut empty:stop short:add | some:hand empty:flush", "short waiting empty", "even",
     (4, 3, ((2, NO), (2, NO), (0, NO)))),
    ("ask told:again bare:add full:flush", "short prompt with", "even", (6, 2, ((1, NO), (2, NO), (2, NO)))),
    ("ask short:cut full:stop add | flush short:hand", "short prompt empty", "even",
     (7, 3, ((2, NO), (2, NO), (3, NO)))),
    ("ask short:cut short:add full:stop | open:flush", "short prompt with", "even",
     (8, 3, ((2, NO), (2, NO), (3, NO)))),
    # Here the rest has more items than the size, and some stay when full pieces are cut off in the next round.
    ("ask empty:cut told:cut add bare:again short:hand empty:stop | bare:cut open:hand", "exact waiting behind",
     "whole", (3, 2, ((2, NO), (1, NO), (0, YES)))),
    ("ask some:add empty:cut open:hand bare:hand open:again rest:stop some:stop empty:cut rest:hand",
     "short prompt behind", "whole", (3, 2, ((1, NO), (2, NO), (0, YES)))),
    ("ask add short:hand some:again open:hand told:hand full:cut told:cut rest:stop | empty:cut", "short prompt with",
     "whole", (3, 2, ((1, NO), (2, YES), (0, YES)))),
]


class JudgingTest(unittest.TestCase):
    def check(self, text, kind, expected):
        """Compare everything that is said with the expected least faults, those that are none left out."""
        loop, source = Loop(text), SOURCES[kind]
        with self.subTest(text=text, kind=kind):
            self.assertEqual({name: fault(loop, source, name) for name in NAMES},
                             {name: expected.get(name) for name in NAMES})
            self.assertEqual(failing(loop, source), tuple(name for name in NAMES if name in expected))
            for name in NAMES:
                self.assertIs(always(loop, source, name), name not in expected)

    def test_examples_of_the_document(self):
        self.assertEqual(
            [always(sample_loop(), sample_source(), "whole"), failing(sample_loop(), sample_source()),
             fault(sample_loop(), sample_source(), "even")],
            [True, ("even",), (2, 2, ((1, False), (1, False)))])
        hasty, exact = Loop("ask hand short:stop"), Source("exact", "prompt", "empty")
        self.assertEqual(
            [failing(hasty, exact), fault(hasty, exact, "filled"), fault(hasty, sample_source(), "whole")],
            [("filled",), (0, 1, ((0, False),)), (2, 2, ((1, False),))])
        self.assertEqual(
            [failing(Loop("ask add cut told:stop | rest:flush"), Source("short", "waiting", "behind")),
             fault(Loop("ask told:stop hand"), Source("exact", "prompt", "with"), "whole"),
             fault(Loop("ask hand"), Source("exact", "prompt", "empty"), "ends")],
            [(), (1, 1, ((1, True),)), (0, 1, ())])
        self.assertEqual(needless(Loop("ask empty:stop some:hand"), sample_source()), ())

    def test_a_loop_that_is_right_wherever_the_end_is_told(self):
        for kind in KINDS:
            self.check("ask add cut told:stop | rest:flush", kind, {"ends": (0, 1, ())} if "empty" in kind else {})

    def test_the_sample_loop(self):
        for kind in KINDS:
            told_with, told_behind = "with" in kind, "empty" not in kind
            expected = {}
            if "waiting" in kind:
                expected["whole"] = (1, 1, ((0, NO),))
            if "short" in kind:
                expected["even"] = (2, 2, ((1, NO), (1, told_with)))
            if told_with:
                expected["quiet"] = (1, 1, ((1, YES),))
            self.check("ask empty:stop hand", kind, expected)
            # Without a stop it hands on empty pieces for ever.
            last = (0, told_behind)
            expected = {"filled": (0, 1, (last,)), "even": (0, 1, (last, last)), "ends": (0, 1, ())}
            if told_behind:
                expected["quiet"] = (0, 1, (last,))
            self.check("ask hand", kind, expected)

    def test_a_loop_that_does_nothing(self):
        for kind in KINDS:
            told = "empty" not in kind
            quiet = {"quiet": (0, 1, ((0, YES),))} if told else {}
            self.check("ask", kind, {"ends": (0, 1, ()), **quiet})
            first = (1, "with" in kind) if "waiting" not in kind else (0, NO)
            self.check("ask stop", kind, {"whole": (1, 1, (first,))})

    def test_loops_that_go_on_only_with_items_in_the_rest(self):
        self.check("ask add empty:stop", "exact prompt empty", {"whole": (1, 1, ((1, NO), (0, NO)))})
        self.check("ask add bare:stop", "exact prompt empty", {"ends": (1, 1, ((1, NO),))})
        self.check("ask add bare:stop cut", "exact prompt empty", {"ends": (1, 2, ((1, NO),))})
        self.check("ask add bare:stop cut", "short waiting empty",
                   {"whole": (1, 1, ((0, NO),)), "ends": (1, 2, ((1, NO),))})
        self.check("ask add cut told:stop | rest:flush", "short prompt with", {})
        self.check("ask add full:again bare:stop", "exact prompt empty", {"ends": (1, 1, ((1, NO),))})
        self.check("ask add cut rest:again empty:stop", "short prompt empty", {"ends": (1, 2, ((1, NO),))})

    def test_loops_that_stop_only_when_the_rest_has_become_empty(self):
        self.check("ask add bare:stop empty:flush", "exact prompt empty", {"even": (2, 1, ((1, NO), (1, NO), (0, NO)))})
        self.check("ask add bare:stop empty:flush", "exact prompt behind",
                   {"even": (2, 1, ((1, NO), (1, NO), (0, YES))), "quiet": (1, 1, ((1, NO), (0, YES)))})
        self.check("ask add bare:stop empty:cut", "exact prompt empty", {"ends": (1, 2, ((1, NO),))})
        # With items left a rest is cut off only in an empty round, and a part stays for ever.
        self.compare("ask bare:hand add bare:stop empty:cut", "short prompt empty", 5)
        text = "ask empty:hand short:hand told:cut empty:cut open:add told:flush bare:stop | full:cut"
        self.assertIsNone(fault(Loop(text), SOURCES["exact prompt empty"], "whole"))
        self.compare(text, "exact prompt empty", 7)

    def test_an_unused_rest_does_no_harm(self):
        self.check("ask add some:hand told:stop", "exact prompt behind", {})
        self.check("ask some:hand add told:stop", "short waiting with", {"even": (2, 2, ((1, NO), (1, YES)))})
        self.check("ask add some:hand cut told:stop", "exact prompt behind", {"whole": (1, 1, ((1, NO), (0, YES)))})
        self.check("ask some:hand add told:stop | cut", "short prompt with",
                   {"whole": (1, 1, ((1, YES),)), "even": (2, 2, ((1, NO), (1, YES)))})

    def test_faults_with_many_items(self):
        for text, kind, name, expected in FAR:
            with self.subTest(text=text, kind=kind, name=name):
                self.assertEqual(fault(Loop(text), SOURCES[kind], name), expected)
                self.assertIs(always(Loop(text), SOURCES[kind], name), False)
                self.assertEqual(least_faults(text, kind, expected[0])[name], expected)

    def compare(self, text, kind, most):
        """Compare with the walk, which goes up to so many items, and up to the farthest fault that is told."""
        told = {name: fault(Loop(text), SOURCES[kind], name) for name in NAMES}
        told = {name: found for name, found in told.items() if found is not None}
        walked = least_faults(text, kind, max([most] + [found[0] for found in told.values()]))
        self.assertEqual(told, walked, (text, kind))
        self.check(text, kind, walked)

    def test_known_loops_against_the_walk(self):
        for text, kind in itertools.product(KNOWN, KINDS):
            self.compare(text, kind, 4)

    def test_loops_with_one_word_behind_ask_against_the_walk(self):
        texts = [text_of([word], []) for word in ROUND_WORDS]
        texts += [text_of(["stop"], [word]) for word in ENDING_WORDS]
        for text, kind in itertools.product(texts, KINDS):
            self.compare(text, kind, 3)

    def test_short_loops_against_the_walk(self):
        chance = random.Random(2)
        for _ in range(150):
            text = random_text(chance, 4, 2)
            for kind in KINDS:
                self.compare(text, kind, 3)

    def test_loops_that_add_against_the_walk(self):
        chance = random.Random(3)
        words = [word for word in ROUND_WORDS if not word.endswith("add")]
        adding = [word for word in ROUND_WORDS if word.endswith("add")]
        for _ in range(100):
            first = [chance.choice(words) for _ in range(chance.randint(1, 4))]
            first.insert(chance.randint(0, len(first)), chance.choice(adding))
            text = text_of(first, [chance.choice(ENDING_WORDS) for _ in range(chance.randint(0, 2))])
            for kind in KINDS:
                self.compare(text, kind, 4)

    def test_long_loops_against_the_walk(self):
        chance = random.Random(4)
        for _ in range(60):
            text = random_text(chance, 11, 6)
            for kind in KINDS:
                self.compare(text, kind, 3)

    def test_kinds_of_the_results(self):
        self.assertIs(type(failing(sample_loop(), sample_source())), tuple)
        self.assertIs(type(needless(sample_loop(), sample_source())), tuple)
        found = items, size, replies = fault(sample_loop(), sample_source(), "even")
        self.assertEqual([type(found), type(items), type(size), type(replies)], [tuple, int, int, tuple])
        self.assertEqual({(type(reply), type(reply[0]), type(reply[1])) for reply in replies}, {(tuple, int, bool)})

    def test_asking_changes_nothing(self):
        loop, source = Loop("ask add cut told:stop | flush"), Source("short", "waiting", "behind")
        first = [failing(loop, source), needless(loop, source), fault(loop, source, "filled")]
        self.assertEqual([failing(loop, source), needless(loop, source), fault(loop, source, "filled")], first)
        self.assertEqual((loop, source),
                         (Loop("ask add cut told:stop | flush"), Source("short", "waiting", "behind")))


class ShownFaultsTest(unittest.TestCase):
    """Each fault that is told is one by `allows` and `run`, as point 11 says."""

    def before_and_after(self, loop, size, replies):
        """What `run` returns without the last reply and with it; the loop must still be at work without it."""
        before = loop.run(size, replies[:-1])
        self.assertEqual(before[1:], (len(replies) - 1, False))
        after = loop.run(size, replies)
        self.assertEqual(after[1], len(replies))
        return before, after

    def check_whole(self, loop, source, items, size, replies):
        before, (pieces, used, stopped) = self.before_and_after(loop, size, replies)
        self.assertTrue(stopped)
        self.assertNotEqual([item for piece in pieces for item in piece], list(range(items)))

    def check_filled(self, loop, source, items, size, replies):
        before, after = self.before_and_after(loop, size, replies)
        self.assertNotIn((), before[0])
        self.assertIn((), after[0])

    def check_even(self, loop, source, items, size, replies):
        before, after = self.before_and_after(loop, size, replies)
        self.assertFalse(is_uneven(before[0], size))
        self.assertTrue(is_uneven(after[0], size))

    def check_quiet(self, loop, source, items, size, replies):
        before, after = self.before_and_after(loop, size, replies)
        self.assertEqual([told for count, told in replies], [False] * (len(replies) - 1) + [True])
        self.assertFalse(after[2])

    def check_ends(self, loop, source, items, size, replies):
        self.assertEqual(sum(count for count, told in replies), items)
        if replies:
            self.before_and_after(loop, size, replies)
            self.assertGreater(replies[-1][0], 0)
        nothing = ((0, source.end != "empty"),) * (100 - len(replies))
        self.assertTrue(source.allows(items, size, replies + nothing))
        self.assertEqual(loop.run(size, replies + nothing)[1:], (100, False))

    def test_faults(self):
        chance = random.Random(6)
        texts = KNOWN + [random_text(chance, 5, 3) for _ in range(100)]
        texts += [random_text(chance, 11, 6) for _ in range(40)]
        shown = {name: 0 for name in NAMES}
        for text, kind, name in itertools.product(texts, KINDS, NAMES):
            loop, source = Loop(text), SOURCES[kind]
            found = fault(loop, source, name)
            if found is not None:
                with self.subTest(text=text, kind=kind, name=name, found=found):
                    self.assertTrue(source.allows(*found))
                    getattr(self, "check_" + name)(loop, source, *found)
                    shown[name] += 1
        self.assertGreater(min(shown.values()), 100)


class NeedlessTest(unittest.TestCase):
    def test_known_ones(self):
        for text, kind, expected in [
            ("ask", "exact prompt empty", ()),
            ("ask empty:stop hand", "exact prompt empty", ()),
            ("ask empty:stop hand", "exact waiting empty", (2,)),
            ("ask empty:stop empty:stop hand", "exact prompt empty", (1, 2)),
            ("ask add cut told:stop | rest:flush", "short waiting with", ()),
            ("ask add cut cut told:stop | rest:flush", "short waiting with", (2, 3)),
            # Either of the two words "cut" is enough.
            ("ask add cut told:stop | cut rest:flush", "short waiting with", (2, 4)),
            ("ask add cut told:stop | rest:flush rest:flush", "short waiting with", (4, 5)),
            ("ask add cut told:stop | rest:flush", "exact prompt empty", (1, 2, 3, 4)),
            ("ask add some:hand told:stop", "exact prompt behind", (1,)),
            ("ask open:again stop hand | flush", "exact prompt empty", (2, 3, 4)),
            ("ask hand told:stop", "exact prompt with", ()),
            ("ask stop", "exact prompt empty", ()),
            ("ask again", "exact prompt empty", (1,)),
            ("ask | hand cut flush", "exact prompt empty", (1, 2, 3)),
        ]:
            with self.subTest(text=text, kind=kind):
                self.assertEqual(needless(Loop(text), SOURCES[kind]), expected)

    def test_exactly_the_places_without_whose_word_failing_is_the_same(self):
        chance = random.Random(7)
        for text in KNOWN + [random_text(chance, 6, 3) for _ in range(40)]:
            for kind in KINDS:
                loop, source = Loop(text), SOURCES[kind]
                expected = []
                for place in range(1, len(loop)):
                    if failing(loop.without(place), source) == failing(loop, source):
                        expected.append(place)
                self.assertEqual(needless(loop, source), tuple(expected), (text, kind))

    def test_against_the_walk(self):
        chance = random.Random(8)
        for text in [random_text(chance, 3, 1) for _ in range(25)]:
            for kind in KINDS:
                loop = Loop(text)
                names = set(least_faults(text, kind, 4))
                expected = tuple(place for place in range(1, len(loop))
                                 if set(least_faults(loop.without(place).text, kind, 4)) == names)
                self.assertEqual(needless(loop, SOURCES[kind]), expected, (text, kind))


class JudgingErrorsTest(unittest.TestCase):
    def check(self, error, wrong, act, **arguments):
        check_error(self, error, "value", wrong, act, **arguments)

    def test_no_loops(self):
        for wrong in NO_LOOPS:
            for other in (sample_source(), None, "short prompt empty", []):
                with self.subTest(wrong=wrong, other=other):
                    for act in (failing, needless):
                        self.check(NotALoop, wrong, act, loop=wrong, source=other)
                    for act in (always, fault):
                        for name in ("whole", "no", None, []):
                            self.check(NotALoop, wrong, act, loop=wrong, source=other, name=name)

    def test_no_sources(self):
        for wrong in NO_SOURCES:
            with self.subTest(wrong=wrong):
                for act in (failing, needless):
                    self.check(NotASource, wrong, act, loop=sample_loop(), source=wrong)
                for act in (always, fault):
                    for name in ("whole", "no", None, []):
                        self.check(NotASource, wrong, act, loop=sample_loop(), source=wrong, name=name)

    def test_no_names(self):
        for wrong in NO_NAMES:
            with self.subTest(wrong=wrong):
                for act in (always, fault):
                    self.check(InvalidName, wrong, act, loop=sample_loop(), source=sample_source(), name=wrong)
                    self.check(InvalidName, wrong, act, loop=Loop("ask"), source=sample_source(), name=wrong)

    def test_the_loop_and_the_source_exchanged(self):
        source = sample_source()
        for act in (failing, needless):
            self.check(NotALoop, source, act, loop=source, source=sample_loop())

    def test_by_keyword(self):
        loop, source = sample_loop(), sample_source()
        self.assertIs(always(name="even", source=source, loop=loop), False)
        self.assertIs(always(loop, name="whole", source=source), True)
        self.assertEqual(failing(source=source, loop=loop), ("even",))
        self.assertEqual(fault(name="even", source=source, loop=loop), (2, 2, ((1, False), (1, False))))
        self.assertIsNone(fault(loop, source, name="ends"))
        self.assertEqual(needless(source=source, loop=loop), ())


if __name__ == "__main__":
    unittest.main()
