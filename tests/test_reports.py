import itertools
import random
import unittest

from cutting import plain_row, random_chain
from lastshort.chains import Chain
from lastshort.errors import InvalidItems, NotAChain, NotALoop, NotASource
from lastshort.loops import Loop
from lastshort.reports import fault_table, piece_table
from lastshort.samples import sample_loop, sample_source
from lastshort.sources import Source
from walking import KINDS, NAMES, least_faults, random_text
from wrong import ANYTHING, NO_CHAINS, NO_LOOPS, NO_SOURCES, check_error

LOOPS = ["ask empty:stop hand", "ask hand short:stop", "ask hand told:stop", "ask", "ask stop", "ask hand",
         "ask add cut told:stop | rest:flush", "ask add told:stop | flush", "ask hand hand full:stop"]


class FaultTableTest(unittest.TestCase):
    def test_example_of_the_document(self):
        self.assertEqual(fault_table(sample_loop(), sample_source()).split("\n"),
                         ["whole: yes", "filled: yes", "even: 2 2 1 1", "quiet: yes", "ends: yes"])

    def test_known_tables(self):
        for text, kind, expected in [
            # Every property fails here, and told is True in replies.
            ("ask hand hand full:stop", "exact prompt with",
             "whole: 1 1 1!\nfilled: 0 1 0!\neven: 0 1 0!\nquiet: 0 1 0!\nends: 0 1"),
            ("ask hand hand full:stop", "short prompt behind",
             "whole: 1 1 1\nfilled: 0 1 0!\neven: 0 1 0!\nquiet: 0 1 0!\nends: 0 1"),
            # A fault without replies, and no space behind it.
            ("ask", "exact prompt empty", "whole: yes\nfilled: yes\neven: yes\nquiet: yes\nends: 0 1"),
            ("ask add bare:stop cut", "exact prompt empty",
             "whole: yes\nfilled: yes\neven: yes\nquiet: yes\nends: 1 2 1"),
            ("ask add cut told:stop | rest:flush", "short waiting behind",
             "whole: yes\nfilled: yes\neven: yes\nquiet: yes\nends: yes"),
            ("ask hand told:stop", "short waiting with",
             "whole: yes\nfilled: 0 1 0!\neven: 1 1 0 0\nquiet: yes\nends: yes"),
            ("ask empty:stop hand", "exact waiting with",
             "whole: 1 1 0\nfilled: yes\neven: yes\nquiet: 1 1 1!\nends: yes"),
            ("ask short:add bare:again short:again bare:stop open:cut bare:flush", "short prompt with", None),
        ]:
            with self.subTest(text=text, kind=kind):
                table = fault_table(Loop(text), Source(*kind.split()))
                if expected is None:
                    self.assertIn("\neven: 9 2 1 1 2 1 1 2\n", table)
                else:
                    self.assertEqual(table, expected)

    def check(self, text, kind):
        table = fault_table(Loop(text), Source(*kind.split()))
        self.assertIs(type(table), str)
        lines = table.split("\n")
        self.assertEqual(len(lines), 5)
        numbers = [int(word) for line in lines for word in line.split(" ")[1:2] if word != "yes"]
        walked = least_faults(text, kind, max([3, *numbers]))
        for name, line in zip(NAMES, lines):
            if name in walked:
                items, size, replies = walked[name]
                words = [str(items), str(size), *[str(count) + "!" * told for count, told in replies]]
                self.assertEqual(line, name + ": " + " ".join(words), (text, kind))
            else:
                self.assertEqual(line, name + ": yes", (text, kind))

    def test_known_loops(self):
        for text, kind in itertools.product(LOOPS, KINDS):
            self.check(text, kind)

    def test_other_loops(self):
        chance = random.Random(71)
        for _ in range(80):
            self.check(random_text(chance, 5, 2), chance.choice(KINDS))

    def test_errors(self):
        for wrong in NO_LOOPS:
            for source in (sample_source(), None, []):
                check_error(self, NotALoop, "value", wrong, fault_table, loop=wrong, source=source)
        for wrong in NO_SOURCES:
            check_error(self, NotASource, "value", wrong, fault_table, loop=sample_loop(), source=wrong)


class PieceTableTest(unittest.TestCase):
    def check(self, text, items):
        first, lines = 0, []
        for size in plain_row(text, items):
            lines.append(str(first) + "-" + str(first + size - 1))
            first += size
        self.assertEqual(piece_table(Chain(text), items), "\n".join(lines), (text, items))

    def test_example_of_the_document(self):
        self.assertEqual(piece_table(Chain("fill 6, cut 4"), 7).split("\n"), ["0-3", "4-5", "6-6"])

    def test_no_items(self):
        for text in ("cut 1", "fill 6, cut 4", "tail 3", "tail 1, tail 2", "cut 3, tail 2, fill 4"):
            self.assertEqual(piece_table(Chain(text), 0), "")

    def test_one_line(self):
        self.assertEqual(piece_table(Chain("cut 1"), 1), "0-0")
        self.assertEqual(piece_table(Chain("tail 1"), 1000), "0-999")
        self.assertEqual(piece_table(Chain("fill 1"), 3), "0-0\n1-1\n2-2")

    def test_a_thousand_items(self):
        for text in ("cut 1", "fill 12", "fill 7, cut 3, tail 3", "tail 5", "fill 1, tail 12, tail 12"):
            self.check(text, 1000)
            self.check(text, 999)
        table = piece_table(Chain("cut 1"), 1000)
        self.assertEqual((table.count("\n"), table[-8:]), (999, "\n999-999"))

    def test_other_chains(self):
        chance = random.Random(72)
        for _ in range(200):
            self.check(random_chain(chance, 6), chance.randint(0, 80))

    def test_errors(self):
        for wrong in NO_CHAINS:
            for items in (7, -1, None, []):
                check_error(self, NotAChain, "value", wrong, piece_table, chain=wrong, items=items)
        numbers = [-1, -2, 1001, 1002, 10 ** 18, 10 ** 19, -10 ** 19, "7", (7,), [7], {7: 7}]
        for wrong in [value for value in ANYTHING if type(value) is not int] + numbers:
            check_error(self, InvalidItems, "value", wrong, piece_table, chain=Chain("cut 1"), items=wrong)


if __name__ == "__main__":
    unittest.main()
