"""Loops of the greatest length: every function answers, and soon."""

import random
import time
import unittest

from lastshort.judging import always, failing, fault, needless
from lastshort.loops import Loop
from lastshort.sources import Source
from walking import ENDING_WORDS, KINDS, NAMES, ROUND_WORDS, least_faults, text_of

WRITTEN = [
    "ask add cut cut cut cut cut cut cut cut cut told:stop | rest:cut cut cut cut cut rest:flush",
    "ask empty:again full:again short:add rest:again bare:again cut flush hand told:stop open:again stop"
    " | hand cut flush hand cut flush",
    "ask hand hand hand hand hand hand hand hand hand hand hand | hand hand hand hand hand hand",
    "ask again again again again again again again again again again again | flush flush flush flush flush flush",
    "ask rest:cut bare:cut told:cut open:cut some:cut empty:cut short:cut full:cut some:add told:flush told:stop"
    " | rest:hand bare:cut told:cut open:flush some:cut empty:cut",
    "ask told:again told:again told:again short:add short:again empty:hand bare:again open:cut rest:stop some:flush"
    " open:again | bare:cut short:flush cut cut cut cut",
    "ask short:add short:again bare:again empty:stop empty:cut empty:hand bare:flush open:cut bare:flush empty:stop"
    " open:cut | open:flush some:hand full:cut flush flush flush",
]
# Far more than is needed, so that a slow machine does no harm; a search without an end is still found out.
SECONDS_FOR_ONE_LOOP = 60


def longest(chance):
    first = [chance.choice([word for word in ROUND_WORDS if not word.endswith("add")]) for _ in range(11)]
    first[chance.randrange(11)] = chance.choice([word for word in ROUND_WORDS if word.endswith("add")])
    return text_of(first, [chance.choice(ENDING_WORDS) for _ in range(6)])


class LongestTest(unittest.TestCase):
    def check(self, text):
        loop = Loop(text)
        self.assertEqual((len(loop.round), len(loop.ending)), (12, 6))
        start = time.monotonic()
        for kind in KINDS:
            source = Source(*kind.split())
            faults = {name: fault(loop, source, name) for name in NAMES}
            names = tuple(name for name in NAMES if faults[name] is not None)
            self.assertEqual(failing(loop, source), names, (text, kind))
            self.assertEqual(tuple(name for name in NAMES if not always(loop, source, name)), names, (text, kind))
            expected = tuple(place for place in range(1, 18) if failing(loop.without(place), source) == names)
            self.assertEqual(needless(loop, source), expected, (text, kind))
            walked = least_faults(text, kind, 3)
            for name in NAMES:
                if name in walked or (faults[name] is not None and faults[name][0] <= 3):
                    self.assertEqual(faults[name], walked.get(name), (text, kind, name))
        self.assertLess(time.monotonic() - start, SECONDS_FOR_ONE_LOOP, text)

    def test_written_ones(self):
        for text in WRITTEN:
            self.check(text)

    def test_others(self):
        chance = random.Random(11)
        for _ in range(15):
            self.check(longest(chance))

    def test_many_words_that_do_nothing(self):
        # Of the words "cut" all but one are needless, in the round and in the ending; only one at a time is taken out.
        loop, source = Loop(WRITTEN[0]), Source("short", "waiting", "with")
        self.assertEqual(failing(loop, source), ())
        self.assertEqual(needless(loop, source), tuple(range(2, 11)) + tuple(range(12, 17)))


if __name__ == "__main__":
    unittest.main()
