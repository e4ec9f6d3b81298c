import itertools
import random
import unittest

from cutting import plain_row, random_chain
from lastshort.certificates import certify, certify_chains, certify_unlike
from lastshort.chains import Chain
from lastshort.checker import holds
from lastshort.errors import InvalidName, InvalidWord, NotAChain, NotALoop, NotASource
from lastshort.loops import Loop
from lastshort.samples import sample_loop, sample_source
from lastshort.sources import Source
from walking import KINDS, NAMES, exact_run, least_faults, random_text
from wrong import NO_CHAINS, NO_ENDS, NO_LOOPS, NO_NAMES, NO_SOURCES, check_error

ENDS = ("empty", "with", "behind")
LOOPS = ["ask empty:stop hand", "ask hand short:stop", "ask some:hand short:stop", "ask hand told:stop", "ask",
         "ask stop", "ask add cut told:stop | rest:flush", "ask add told:stop | flush", "ask hand",
         "ask add bare:stop cut", "ask hand hand full:stop", "ask flush add told:stop",
         "ask add cut hand told:stop | flush", "ask told:again bare:add full:flush",
         "ask some:cut empty:stop short:add | some:hand empty:flush",
         "ask short:add bare:again short:again bare:stop open:cut bare:flush"]


class CertifyTest(unittest.TestCase):
    def check(self, text, kind, most):
        loop, source = Loop(text), Source(*kind.split())
        certificates = {name: certify(loop, source, name) for name in NAMES}
        farthest = [paper[0] for claim, paper in certificates.values() if paper]
        walked = least_faults(text, kind, max([most, *farthest]))
        for name, (claim, paper) in certificates.items():
            if name in walked:
                expected, other = ("fault", text, kind, name), ("always", text, kind, name)
                self.assertEqual((claim, paper), (expected, walked[name]))
            else:
                expected, other = ("always", text, kind, name), ("fault", text, kind, name)
                self.assertEqual((claim, paper), (expected, ()))
            self.assertIs(holds(claim, paper), True, (claim, paper))
            for wrong in (paper, (), (0, 1, ()), (1, 1, ((1, False),)), *walked.values()):
                self.assertIs(holds(other, wrong), False, (other, wrong))
        return set(walked)

    def test_examples_of_the_document(self):
        self.assertEqual(certify(sample_loop(), sample_source(), "even"),
                         (("fault", "ask empty:stop hand", "short prompt empty", "even"),
                          (2, 2, ((1, False), (1, False)))))
        self.assertEqual(certify(sample_loop(), sample_source(), "whole"),
                         (("always", "ask empty:stop hand", "short prompt empty", "whole"), ()))

    def test_known_loops(self):
        for text, kind in itertools.product(LOOPS, KINDS):
            self.check(text, kind, 4)

    def test_other_loops(self):
        chance = random.Random(61)
        seen = set()
        for most, many in ((2, 60), (5, 60), (11, 30)):
            for _ in range(many):
                text = random_text(chance, most, 3)
                for kind in chance.sample(KINDS, 5):
                    seen |= self.check(text, kind, 3)
        self.assertEqual(seen, set(NAMES))

    def test_papers_of_many_loops_convince_the_checker(self):
        chance = random.Random(62)
        for _ in range(400):
            loop, source = Loop(random_text(chance, 11, 6)), Source(*chance.choice(KINDS).split())
            for name in NAMES:
                claim, paper = certify(loop, source, name)
                self.assertIs(holds(claim, paper), True, (claim, paper))

    def test_errors(self):
        for wrong in NO_LOOPS:
            for source, name in ((sample_source(), "whole"), (None, "whole"), ([], None), (sample_source(), "no")):
                check_error(self, NotALoop, "value", wrong, certify, loop=wrong, source=source, name=name)
        for wrong in NO_SOURCES:
            for name in ("whole", "no", None, []):
                check_error(self, NotASource, "value", wrong, certify, loop=sample_loop(), source=wrong, name=name)
        for wrong in NO_NAMES:
            check_error(self, InvalidName, "value", wrong, certify,
                        loop=sample_loop(), source=sample_source(), name=wrong)

    def test_kinds_of_the_results(self):
        claim, paper = certify(sample_loop(), sample_source(), "even")
        self.assertEqual([type(claim), type(paper)] + [type(part) for part in claim], [tuple] * 2 + [str] * 4)
        self.assertIs(type(certify(sample_loop(), sample_source(), "even")), tuple)


class CertifyUnlikeTest(unittest.TestCase):
    def first(self, text, other, end, most):
        for items in range(most + 1):
            for size in range(1, items + 3):
                one, two = exact_run(text, end, items, size), exact_run(other, end, items, size)
                if (one and one[0]) != (two and two[0]):
                    return items, size
        return None

    def check(self, text, other, end):
        found = certify_unlike(Loop(text), Loop(other), end)
        expected = self.first(text, other, end, 5)
        if expected is None:
            self.assertIsNone(found, (text, other, end))
            for paper in itertools.product(range(4), range(1, 4)):
                self.assertIs(holds(("unlike", text, other, end), paper), False)
        else:
            self.assertEqual(found, (("unlike", text, other, end), expected))
            self.assertIs(type(found), tuple)
            self.assertIs(holds(*found), True, found)
            # For the loop itself the same paper shows nothing.
            self.assertIs(holds(("unlike", text, text, end), found[1]), False)
        return found is None

    def test_known_loops(self):
        seen = {self.check(text, other, end) for text, other, end in itertools.product(LOOPS[:12], LOOPS[:12], ENDS)}
        self.assertEqual(seen, {True, False})

    def test_known_certificates(self):
        self.assertEqual(certify_unlike(Loop("ask empty:stop hand"), Loop("ask hand short:stop"), "empty"),
                         (("unlike", "ask empty:stop hand", "ask hand short:stop", "empty"), (0, 1)))
        self.assertIsNone(certify_unlike(Loop("ask empty:stop hand"), Loop("ask some:hand short:stop"), "empty"))

    def test_late_ones(self):
        text, other = "ask open:hand rest:stop add", "ask rest:stop told:add bare:hand"
        self.assertEqual(certify_unlike(Loop(text), Loop(other), "with"), (("unlike", text, other, "with"), (4, 1)))

    def test_other_loops(self):
        chance = random.Random(63)
        for _ in range(60):
            self.check(random_text(chance, 4, 2), random_text(chance, 4, 2), chance.choice(ENDS))

    def test_errors(self):
        loop = sample_loop()
        for wrong in NO_LOOPS:
            for other, end in ((loop, "empty"), (None, "no"), (loop, None)):
                check_error(self, NotALoop, "value", wrong, certify_unlike, loop=wrong, other_loop=other, end=end)
            for end in ("empty", "no", None):
                check_error(self, NotALoop, "value", wrong, certify_unlike, loop=loop, other_loop=wrong, end=end)
        for wrong in NO_ENDS:
            check_error(self, InvalidWord, "value", wrong, certify_unlike, loop=loop, other_loop=loop, end=wrong)


class CertifyChainsTest(unittest.TestCase):
    def check(self, text, other):
        found = certify_chains(Chain(text), Chain(other))
        differing = [items for items in range(200) if plain_row(text, items) != plain_row(other, items)]
        if differing:
            self.assertEqual(found, (("split", text, other), differing[0]))
            wrong_claim, wrong_papers = ("chains", text, other), [(), differing[0]]
        else:
            self.assertEqual(found, (("chains", text, other), ()))
            wrong_claim, wrong_papers = ("split", text, other), [(), *range(30), 999, 1000]
        self.assertIs(holds(*found), True, found)
        for paper in wrong_papers:
            self.assertIs(holds(wrong_claim, paper), False)
        return not differing

    def test_example_of_the_document(self):
        self.assertEqual(certify_chains(Chain("fill 6, cut 4"), Chain("fill 4")),
                         (("split", "fill 6, cut 4", "fill 4"), 7))
        self.assertEqual(certify_chains(Chain("cut 4, fill 6"), Chain("fill 6")),
                         (("chains", "cut 4, fill 6", "fill 6"), ()))

    def test_known_chains(self):
        texts = ["fill 6", "cut 4, fill 6", "fill 6, cut 3", "fill 3", "tail 1", "tail 12, tail 2", "fill 12, tail 12"]
        seen = {self.check(text, other) for text, other in itertools.product(texts, texts)}
        self.assertEqual(seen, {True, False})

    def test_other_chains(self):
        chance = random.Random(64)
        for _ in range(150):
            self.check(random_chain(chance, 3), random_chain(chance, 6))

    def test_errors(self):
        chain = Chain("cut 1")
        for wrong in NO_CHAINS:
            for other in (chain, None, "cut 1"):
                check_error(self, NotAChain, "value", wrong, certify_chains, chain=wrong, other_chain=other)
            check_error(self, NotAChain, "value", wrong, certify_chains, chain=chain, other_chain=wrong)


if __name__ == "__main__":
    unittest.main()
