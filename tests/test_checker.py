import itertools
import random
import time
import unittest

from cutting import plain_row, random_chain
from lastshort.chains import Chain, first_difference
from lastshort.checker import holds
from lastshort.comparing import first_unlike
from lastshort.judging import always, fault
from lastshort.loops import Loop
from lastshort.samples import sample_loop
from lastshort.sources import Source
from walking import KINDS, NAMES, exact_run, is_plain_fault, least_faults, random_text
from wrong import ANYTHING, AlwaysEqual, NeverCompared, nested

NO, YES = False, True
ENDS = ("empty", "with", "behind")

LOOPS = ["ask empty:stop hand", "ask hand short:stop", "ask some:hand short:stop", "ask hand told:stop", "ask",
         "ask stop", "ask add cut told:stop | rest:flush", "ask add told:stop | flush", "ask hand",
         "ask add bare:stop cut", "ask hand hand full:stop", "ask flush add told:stop",
         "ask add cut hand told:stop | flush"]

# Claims with a paper that shows each of them.
SHOWN = [
    (("always", "ask empty:stop hand", "short prompt empty", "whole"), ()),
    (("always", "ask add cut told:stop | rest:flush", "short waiting behind", "even"), ()),
    (("fault", "ask empty:stop hand", "short prompt empty", "even"), (2, 2, ((1, NO), (1, NO)))),
    (("fault", "ask hand", "exact prompt with", "quiet"), (1, 1, ((1, YES),))),
    (("fault", "ask hand", "exact prompt empty", "ends"), (0, 1, ())),
    (("unlike", "ask empty:stop hand", "ask hand short:stop", "empty"), (0, 1)),
    (("unlike", "ask empty:stop hand", "ask add empty:stop | rest:flush", "behind"), (2, 1)),
    (("chains", "cut 4, fill 6", "fill 6"), ()),
    (("split", "fill 6, cut 4", "fill 4"), 7),
]


class Checked(unittest.TestCase):
    def accepts(self, claim, paper):
        self.assertIs(holds(claim, paper), True, (claim, paper))

    def refuses(self, claim, paper):
        self.assertIs(holds(claim, paper), False)


class ClaimsTest(Checked):
    def test_example_of_the_document(self):
        self.accepts(("fault", "ask hand", "exact prompt with", "quiet"), (1, 1, ((1, True),)))

    def test_each_form(self):
        for claim, paper in SHOWN:
            self.accepts(claim, paper)
            self.assertIs(holds(paper=paper, claim=claim), True)

    def test_papers_of_other_claims(self):
        for (claim, right), (other, paper) in itertools.product(SHOWN, SHOWN):
            if (claim[0] in ("always", "chains")) != (paper == ()) or claim[0] != other[0]:
                self.assertIs(holds(claim, paper), paper == right, (claim, paper))

    def test_always(self):
        for text, kind, name in itertools.product(LOOPS, KINDS, NAMES):
            true = name not in least_faults(text, kind, 4)
            self.assertIs(holds(("always", text, kind, name), ()), true, (text, kind, name))
            for paper in (None, [], {}, "", 0, (0, 1, ()), ((),), False, True, [()], b"", range(0)):
                self.refuses(("always", text, kind, name), paper)

    def test_least_faults(self):
        for text, kind in itertools.product(LOOPS, KINDS):
            found = least_faults(text, kind, 4)
            for name in NAMES:
                claim = ("fault", text, kind, name)
                for other in found:
                    self.assertIs(holds(claim, found[other]), is_plain_fault(text, kind, name, *found[other]))
                if name in found:
                    self.accepts(claim, found[name])
                for paper in ((), None, found.get(name) and list(found[name]), found.get(name, ())[:2]):
                    self.refuses(claim, paper)


class FaultPapersTest(Checked):
    def check(self, text, kind, name, paper):
        """Compare with the plain walk; the paper must have the right kinds of numbers."""
        told = is_plain_fault(text, kind, name, *paper)
        self.assertIs(holds(("fault", text, kind, name), paper), told, (text, kind, name, paper))
        return told

    def test_faults_that_are_not_the_least(self):
        for claim, papers in [
            (("fault", "ask empty:stop hand", "short prompt empty", "even"),
             [(3, 2, ((1, NO), (1, NO))), (3, 2, ((1, NO), (2, NO))), (2, 7, ((1, NO), (1, NO))),
              (9, 5, ((5, NO), (2, NO), (1, NO))), (1000, 1000, ((1, NO), (999, NO)))]),
            (("fault", "ask hand", "exact prompt empty", "ends"),
             [(0, 9, ()), (3, 2, ((2, NO), (1, NO))), (4, 2, ((2, NO), (2, NO)))]),
            (("fault", "ask empty:stop hand", "exact waiting empty", "whole"),
             [(1, 1, ((0, NO),)), (5, 2, ((2, NO), (0, NO))), (5, 2, ((2, NO), (2, NO), (0, NO)))]),
            (("fault", "ask hand told:stop", "short waiting behind", "filled"),
             [(0, 1, ((0, YES),)), (1, 1, ((0, NO),)), (2, 2, ((1, NO), (0, NO))),
              (2, 2, ((1, NO), (1, NO), (0, YES)))]),
            (("fault", "ask hand", "exact prompt with", "quiet"), [(0, 1, ((0, YES),)), (3, 2, ((2, NO), (1, YES)))]),
        ]:
            for paper in papers:
                self.accepts(claim, paper)
                self.check(claim[1], claim[2], claim[3], paper)

    def test_one_reply_too_far_or_not_far_enough(self):
        for text, kind, name in itertools.product(LOOPS, KINDS, NAMES):
            found = fault(Loop(text), Source(*kind.split()), name)
            if found is not None:
                items, size, replies = found
                self.accepts(("fault", text, kind, name), found)
                for more in itertools.product(range(size + 1), (NO, YES)):
                    told = self.check(text, kind, name, (items, size, replies + (more,)))
                    self.assertFalse(told and name != "ends")
                for many in range(len(replies)):
                    self.refuses(("fault", text, kind, name), (items, size, replies[:many]))
                    self.check(text, kind, name, (items, size, replies[:many]))

    def test_replies_that_the_source_cannot_give(self):
        for claim, wrong in [
            (("fault", "ask hand", "exact prompt with", "quiet"), (1, 1, ((1, NO),))),
            (("fault", "ask hand", "exact prompt with", "quiet"), (2, 1, ((1, YES),))),
            (("fault", "ask hand", "exact prompt with", "quiet"), (2, 2, ((1, YES),))),
            (("fault", "ask hand", "exact prompt with", "quiet"), (1, 1, ((0, NO), (1, YES)))),
            (("fault", "ask hand", "exact prompt empty", "quiet"), (1, 1, ((1, YES),))),
            (("fault", "ask empty:stop hand", "exact prompt empty", "even"), (2, 2, ((1, NO), (1, NO)))),
            (("fault", "ask empty:stop hand", "short prompt empty", "whole"), (1, 1, ((0, NO),))),
            (("fault", "ask empty:stop hand", "short prompt empty", "even"), (1, 2, ((1, NO), (1, NO)))),
            (("fault", "ask empty:stop hand", "short prompt empty", "even"), (4, 2, ((3, NO), (1, NO)))),
            (("fault", "ask stop", "exact prompt behind", "whole"), (1, 1, ((1, YES),))),
        ]:
            self.refuses(claim, wrong)

    def test_limits_of_the_numbers(self):
        claim = ("fault", "ask hand", "short waiting empty", "ends")
        for items, told in ((0, True), (1000, True), (1001, False), (-1, False)):
            replies = ((items, NO),) if items > 0 else ()
            self.assertIs(holds(claim, (items, 1000, replies)), told, items)
            self.assertIs(holds(claim, (items, 1, replies)), told and items == 0, items)
        for size, told in ((0, False), (1, True), (1000, True), (1001, False), (-1, False), (10 ** 19, False)):
            self.assertIs(holds(claim, (0, size, ())), told, size)
            self.assertIs(holds(claim, (1, size, ((1, NO),))), told, size)
        claim = ("fault", "ask stop", "exact prompt empty", "whole")
        for items, told in ((1, True), (1000, True), (1001, False), (0, False), (-1, False), (10 ** 19, False)):
            self.assertIs(holds(claim, (items, 1, ((1 if items else 0, NO),))), told, items)
            self.assertIs(holds(claim, (items, 1000, ((max(0, min(items, 1000)), NO),))), told, items)

    def test_a_hundred_replies_and_one_more(self):
        claim = ("fault", "ask some:stop", "short waiting empty", "whole")
        for many, told in ((1, True), (99, True), (100, True), (101, False), (102, False), (500, False)):
            self.assertIs(holds(claim, (2, 1, ((0, NO),) * (many - 1) + ((1, NO),))), told, many)
        claim = ("fault", "ask hand", "short prompt empty", "ends")
        for many, told in ((100, True), (101, False)):
            self.assertIs(holds(claim, (many, 1, ((1, NO),) * many)), told, many)
            self.assertIs(holds(claim, (many, 1000, ((1, NO),) * many)), told, many)

    def test_all_small_papers(self):
        for text, kind in [
            ("ask empty:stop hand", "short waiting with"), ("ask add bare:stop cut", "short prompt empty"),
            ("ask hand told:stop", "exact waiting behind"), ("ask add told:stop | flush", "short waiting with"),
            ("ask hand hand full:stop", "exact prompt with"),
        ]:
            shown = {name: 0 for name in NAMES}
            for items, size, many in itertools.product(range(4), (1, 2, 3), range(4)):
                for replies in itertools.product(itertools.product(range(size + 1), (NO, YES)), repeat=many):
                    if many < 3 or sum(count for count, told in replies) == items:
                        for name in NAMES:
                            shown[name] += self.check(text, kind, name, (items, size, replies))
            self.assertEqual([name for name in NAMES if shown[name]], [
                name for name in NAMES if not always(Loop(text), Source(*kind.split()), name)])

    def test_drawn_papers(self):
        chance = random.Random(51)
        shown = {name: 0 for name in NAMES}
        for _ in range(12000):
            text = chance.choice(LOOPS + [random_text(chance, 4, 2)])
            kind, items, size = chance.choice(KINDS), chance.randint(0, 5), chance.randint(1, 4)
            left, replies = items, []
            for _ in range(chance.randint(0, 5)):
                count = chance.choice([min(left, size), chance.randint(0, min(left, size))])
                left -= count
                last = left == 0 if "with" in kind else left + count == 0
                replies.append((count, last and "empty" not in kind))
            if chance.random() < 0.1 and replies:
                replies[chance.randrange(len(replies))] = (chance.randint(0, size), chance.random() < 0.5)
            for name in NAMES:
                shown[name] += self.check(text, kind, name, (items, size, tuple(replies)))
        self.assertGreater(min(shown.values()), 100)


class UnlikePapersTest(Checked):
    def test_all_small_papers(self):
        for text, other in itertools.combinations_with_replacement(LOOPS, 2):
            for end in ENDS:
                for items, size in itertools.product(range(5), range(1, 6)):
                    one, two = exact_run(text, end, items, size), exact_run(other, end, items, size)
                    told = (one and one[0]) != (two and two[0])
                    self.assertIs(holds(("unlike", text, other, end), (items, size)), told)
                    self.assertIs(holds(("unlike", other, text, end), (items, size)), told)

    def test_limits_of_the_numbers(self):
        claim = ("unlike", "ask stop", "ask", "with")
        for items, size in itertools.product((-1, 0, 1, 2, 29, 30, 31, 32, 1000, 10 ** 19), repeat=2):
            self.assertIs(holds(claim, (items, size)), 0 <= items <= 30 and 1 <= size <= 30, (items, size))

    def test_other_papers(self):
        claim = ("unlike", "ask stop", "ask", "with")
        self.accepts(claim, (1, 1))
        for paper in ((), (1,), (1, 1, 1), (1, 1, ()), [1, 1], (True, 1), (1, True), (False, 1), ("1", 1), (1, "1"),
                      (None, 1), (1, None), ((1, 1),), ((1,), 1), (1, (1,)), {1: 1}, {1}, 1, "11", b"11", range(1, 3),
                      (AlwaysEqual(), 1), (1, NeverCompared()), ([1], 1), (1, [1])):
            self.refuses(claim, paper)

    def test_loops_that_are_alike(self):
        for text, other, end in [("ask", "ask", "empty"), ("ask empty:stop hand", "ask some:hand short:stop", "empty"),
                                 ("ask", "ask hand", "with"), ("ask hand told:stop", "ask", "empty")]:
            self.assertIsNone(first_unlike(Loop(text), Loop(other), end))
            for items, size in itertools.product(range(31), (1, 2, 3, 7, 29, 30)):
                self.refuses(("unlike", text, other, end), (items, size))


class ChainPapersTest(Checked):
    def test_chains(self):
        chance = random.Random(52)
        texts = ["fill 6", "cut 4, fill 6", "fill 6, cut 3", "fill 3", "cut 3", "tail 1", "tail 12, tail 2", "fill 4",
                 "fill 6, cut 4", "fill 6, tail 6", "fill 5, tail 1"] + [random_chain(chance, 4) for _ in range(12)]
        for text, other in itertools.product(texts, texts):
            true = all(plain_row(text, items) == plain_row(other, items) for items in range(60))
            self.assertIs(holds(("chains", text, other), ()), true)
            self.assertIs(first_difference(Chain(text), Chain(other)) is None, true)
            for items in (*range(0, 16), 24, 25, 36, 60):
                told = plain_row(text, items) != plain_row(other, items)
                self.assertIs(holds(("split", text, other), items), told, (text, other, items))
                self.refuses(("chains", text, other), items)
                self.refuses(("split", text, other), (items,))
            for paper in (None, [], {}, "", False, ((),), (0,)):
                self.refuses(("chains", text, other), paper)
                self.refuses(("split", text, other), paper)
            self.refuses(("split", text, other), ())

    def test_limits_of_the_number(self):
        claim = ("split", "fill 1", "tail 1")
        for items, told in ((0, False), (1, False), (2, True), (999, True), (1000, True), (1001, False), (-1, False),
                            (-2, False), (10 ** 18, False), (10 ** 19, False), (True, False), (False, False)):
            self.assertIs(holds(claim, items), told, items)


def with_parts_exchanged(whole, others):
    """Each tuple in which one part, at any depth, is one of the others, is left out, or stands twice."""
    for place, part in enumerate(whole):
        for other in others:
            if not isinstance(other, str) or other != part:
                yield whole[:place] + (other,) + whole[place + 1:]
        yield whole[:place] + whole[place + 1:]
        yield whole[:place] + (part, part) + whole[place + 1:]
        yield whole[:place] + ([part],) + whole[place + 1:]
        if isinstance(part, tuple):
            yield whole[:place] + (list(part),) + whole[place + 1:]
            for changed in with_parts_exchanged(part, others):
                yield whole[:place] + (changed,) + whole[place + 1:]
    yield whole + (None,)
    yield (None,) + whole


STRANGE = ANYTHING + [["ask"], {"ask"}, {"a": []}, ("always",), NeverCompared, sample_loop(), Loop, Source,
                      Chain("cut 1"), nested(12), [[[[]]]], bytearray(b"x"), "ask ", "always", "fault"]


class StrangeTest(Checked):
    """Nothing of another form is accepted, and nothing is raised."""

    def test_strange_claims(self):
        for claim, paper in itertools.product(STRANGE, [paper for claim, paper in SHOWN] + STRANGE[::3]):
            self.refuses(claim, paper)

    def test_strange_papers(self):
        for (claim, right), paper in itertools.product(SHOWN, STRANGE):
            numbers = claim[0] == "split" and isinstance(paper, int) and not isinstance(paper, bool)
            if not numbers and not (right == () and isinstance(paper, tuple) and paper == ()):
                self.refuses(claim, paper)

    def test_claims_with_a_part_exchanged(self):
        for claim, paper in SHOWN:
            for other in with_parts_exchanged(claim, STRANGE + ["whole!", "Even", "short  prompt empty", "empty\n"]):
                self.refuses(other, paper)

    def test_claims_as_lists(self):
        for claim, paper in SHOWN:
            self.refuses(list(claim), paper)
            self.refuses(dict.fromkeys(claim), paper)
            self.refuses(" ".join(claim), paper)
            self.refuses((claim,), paper)
            self.refuses((claim, paper), paper)
            self.refuses(claim + (paper,), paper)

    def test_papers_with_a_part_exchanged(self):
        for (kind, text, other, *name), paper in SHOWN:
            if kind in ("fault", "unlike"):
                for changed in with_parts_exchanged(paper, STRANGE):
                    if not all_right(changed, kind):
                        self.refuses((kind, text, other, *name), changed)

    def test_bools_where_integers_belong(self):
        for paper in ((True, 1, ((1, True),)), (1, True, ((1, True),)), (1, 1, ((True, True),)), (1, 1, ((1, 1),)),
                      (True, True, ((True, True),))):
            self.refuses(("fault", "ask hand", "exact prompt with", "quiet"), paper)
        for paper in ((False, 1, ()), (0, True, ())):
            self.refuses(("fault", "ask hand", "exact prompt empty", "ends"), paper)

    def test_other_words_of_a_claim(self):
        for claim, paper in SHOWN:
            for word in ("", "Always", "ALWAYS", "always ", " fault", "faults", "alike", "like", "chain", "splits",
                         "holds", "ends", "even", "unlike\n", "always", "fault", "unlike", "chains", "split"):
                if word != claim[0]:
                    self.refuses((word,) + claim[1:], paper)

    def test_texts_that_are_none(self):
        for text in ("", "ask ", " ask", "Ask", "hand", "ask | ", "ask ask", "ask add add", "ask" + " hand" * 12,
                     "cut 4", "x" * 500, "short prompt empty", "ask\n"):
            for name in NAMES:
                self.refuses(("always", text, "short prompt empty", name), ())
                self.refuses(("fault", text, "short prompt empty", name), (0, 1, ()))
            self.refuses(("unlike", text, "ask stop", "empty"), (0, 1))
            self.refuses(("unlike", "ask stop", text, "empty"), (0, 1))
        for text in ("", "cut", "cut 0", "cut 13", "cut 04", "cut 4,", "cut 4, ", "Cut 4", ", ".join(["cut 4"] * 7),
                     "ask", " cut 4", "cut \u0664"):
            for claim in (("chains", text, "cut 4"), ("chains", "cut 4", text), ("chains", text, text)):
                self.refuses(claim, ())
            for claim in (("split", text, "cut 4"), ("split", "cut 4", text)):
                self.refuses(claim, 5)

    def test_kinds_that_are_none(self):
        for kind in ("", "short", "short prompt", "short prompt empty ", " short prompt empty", "short  prompt empty",
                     "short prompt  empty", "prompt short empty", "Short prompt empty", "short prompt empty empty",
                     "short prompt empty\n", "short\tprompt\tempty", "short,prompt,empty", "Source(short prompt empty)",
                     "exact prompt none", "exact exact exact", ("short", "prompt", "empty"),
                     ["short", "prompt", "empty"], Source("short", "prompt", "empty")):
            self.refuses(("always", "ask empty:stop hand", kind, "whole"), ())
            self.refuses(("fault", "ask hand", kind, "ends"), (0, 1, ()))

    def test_loops_themselves_are_no_texts(self):
        self.refuses(("always", sample_loop(), "short prompt empty", "whole"), ())
        self.refuses(("unlike", Loop("ask"), Loop("ask stop"), "empty"), (0, 1))
        self.refuses(("split", Chain("fill 1"), Chain("tail 1")), 2)

    def test_all_is_answered_soon(self):
        start = time.monotonic()
        for text in ("ask add" + " cut" * 10 + " | " + " ".join(["flush"] * 6), "ask" + " hand" * 11):
            for kind, name in itertools.product(KINDS, NAMES):
                holds(("always", text, kind, name), ())
                holds(("fault", text, kind, name), (1000, 1000, ((10, NO),) * 100))
        self.assertLess(time.monotonic() - start, 60)


def all_right(paper, kind):
    """Whether a paper with a part exchanged is still one of the right form, so that it may show the claim."""
    def is_number(value):
        return type(value) is int

    if kind == "unlike":
        return len(paper) == 2 and all(is_number(part) for part in paper)
    return (len(paper) == 3 and is_number(paper[0]) and is_number(paper[1]) and type(paper[2]) is tuple
            and all(type(reply) is tuple and len(reply) == 2 and is_number(reply[0]) and type(reply[1]) is bool
                    for reply in paper[2]))


if __name__ == "__main__":
    unittest.main()
