"""Every function and method of the interface with its arguments passed by place, and by name in every order."""

import inspect
import itertools
import unittest

from lastshort import (
    certificates, chains, checker, comparing, console, errors, judging, loops, readings, reports, samples, sources)

LOOP, OTHER = loops.Loop("ask empty:stop hand"), loops.Loop("ask hand short:stop")
SOURCE = sources.Source("short", "prompt", "empty")
CHAIN, OTHER_CHAIN = chains.Chain("fill 6, cut 4"), chains.Chain("fill 4")
EVEN = (2, 2, ((1, False), (1, False)))


def reading():
    """A new reading each time, as it changes."""
    return readings.Reading(LOOP, 3)


# The function or method, its arguments by their names in the order of the signature, and what is to be returned.
CALLS = [
    (lambda: SOURCE.allows, {"items": 2, "size": 2, "replies": EVEN[2]}, True),
    (lambda: LOOP.without, {"place": 1}, loops.Loop("ask hand")),
    (lambda: LOOP.run, {"size": 2, "replies": ((2, False),)}, (((0, 1),), 1, False)),
    (lambda: samples.sample_loop, {}, LOOP),
    (lambda: samples.sample_source, {}, SOURCE),
    (lambda: judging.always, {"loop": LOOP, "source": SOURCE, "name": "even"}, False),
    (lambda: judging.failing, {"loop": LOOP, "source": SOURCE}, ("even",)),
    (lambda: judging.fault, {"loop": LOOP, "source": SOURCE, "name": "even"}, EVEN),
    (lambda: judging.needless, {"loop": LOOP, "source": SOURCE}, ()),
    (lambda: comparing.first_unlike, {"loop": LOOP, "other_loop": OTHER, "end": "empty"}, (0, 1)),
    (lambda: comparing.alike, {"loop": LOOP, "other_loop": OTHER, "end": "empty"}, False),
    (lambda: comparing.rounds, {"loop": LOOP, "end": "empty"}, (((1, 2, 3, 4, 5), 1), ((2, 3, 4, 5, 6), 1))),
    (lambda: CHAIN.number, {"items": 13}, 5),
    (lambda: CHAIN.piece, {"items": 13, "place": 3}, (10, 2)),
    (lambda: CHAIN.place_of, {"items": 13, "item": 12}, 4),
    (lambda: chains.first_difference, {"chain": CHAIN, "other_chain": OTHER_CHAIN}, 7),
    (lambda: chains.widths_seen, {"sizes": (4, 4, 1)}, (4,)),
    (lambda: reading().feed, {"count": 2, "told": False}, ((0, 1),)),
    (lambda: reading().feed_all, {}, None),
    (lambda: reading().trial().__enter__().undo, {}, errors.NothingToUndo),
    (lambda: readings.within, {"trial": reading().trial(), "act": lambda given: given.feed(1, True)}, ((0,),)),
    (lambda: readings.attempt, {"reading": reading(), "act": lambda given: given.feed(1, True)}, ((0,),)),
    (lambda: checker.holds, {"claim": ("split", "fill 6, cut 4", "fill 4"), "paper": 7}, True),
    (lambda: certificates.certify, {"loop": LOOP, "source": SOURCE, "name": "even"},
     (("fault", "ask empty:stop hand", "short prompt empty", "even"), EVEN)),
    (lambda: certificates.certify_unlike, {"loop": LOOP, "other_loop": OTHER, "end": "empty"},
     (("unlike", "ask empty:stop hand", "ask hand short:stop", "empty"), (0, 1))),
    (lambda: certificates.certify_chains, {"chain": CHAIN, "other_chain": OTHER_CHAIN},
     (("split", "fill 6, cut 4", "fill 4"), 7)),
    (lambda: reports.fault_table, {"loop": LOOP, "source": SOURCE},
     "whole: yes\nfilled: yes\neven: 2 2 1 1\nquiet: yes\nends: yes"),
    (lambda: reports.piece_table, {"chain": CHAIN, "items": 7}, "0-3\n4-5\n6-6"),
    (lambda: console.Console(LOOP, 2).say, {"row": "feed 2"}, "0,1"),
]
# Classes, with what their objects show.
CLASSES = [
    (sources.Source, {"amount": "short", "patience": "prompt", "end": "empty"}, str, "short prompt empty"),
    (loops.Loop, {"text": "ask hand"}, str, "ask hand"),
    (chains.Chain, {"text": "fill 6, cut 4"}, str, "fill 6, cut 4"),
    (readings.Reading, {"loop": LOOP, "size": 3}, repr, "Reading(0 replies)"),
    (console.Console, {"loop": LOOP, "size": 3}, lambda made: made.say("state"), "open"),
]


def all_ways(act, arguments):
    """The results by place, with some by place and the others by name, and by name in every order."""
    names = list(arguments)
    for many in range(len(names) + 1):
        for order in itertools.permutations(names[many:]):
            placed = [arguments[name] for name in names[:many]]
            yield act()(*placed, **{name: arguments[name] for name in order})


class KeywordsTest(unittest.TestCase):
    def test_functions_and_methods(self):
        for act, arguments, expected in CALLS:
            with self.subTest(act=act()):
                if expected is errors.NothingToUndo:
                    self.assertRaises(expected, lambda: list(all_ways(act, arguments)))
                else:
                    for result in all_ways(act, arguments):
                        self.assertEqual(result, expected)

    def test_classes(self):
        for made, arguments, show, expected in CLASSES:
            with self.subTest(made=made):
                for result in all_ways(lambda: made, arguments):
                    self.assertIs(type(result), made)
                    self.assertEqual(show(result), expected)

    def test_names_and_order_of_the_signatures(self):
        for act, arguments, _ in CALLS:
            signature = inspect.signature(act()).parameters
            if "deeds" not in signature:
                self.assertEqual(list(signature), list(arguments))
        for made, arguments, *_ in CLASSES:
            self.assertEqual(list(inspect.signature(made).parameters), list(arguments))

    def test_feed_all(self):
        seen = []
        made = reading()
        made.feed_all(("feed", 1, False), ("feed", 2, False), watch=lambda given, place: seen.append((given, place)))
        self.assertEqual(seen, [(made, 0), (made, 1)])
        signature = inspect.signature(made.feed_all).parameters
        self.assertEqual([(name, parameter.kind.name) for name, parameter in signature.items()],
                         [("deeds", "VAR_POSITIONAL"), ("watch", "KEYWORD_ONLY")])
        self.assertIsNone(signature["watch"].default)


if __name__ == "__main__":
    unittest.main()
