import itertools
import math
import random
import re
import time
import unittest

from cutting import WORDS, cut_up, plain_row, random_chain
from lastshort.chains import Chain, first_difference, widths_seen
from lastshort.errors import InvalidItems, InvalidPlace, InvalidText, NotAChain
from lastshort.loops import Loop
from wrong import ANYTHING, NO_CHAINS, AlwaysEqual, check_error

GREATEST = 10 ** 18 - 1
TEXT = re.compile(r"(?:(?:cut|fill|tail) (?:[1-9]|1[0-2]))(?:, (?:cut|fill|tail) (?:[1-9]|1[0-2])){0,5}", re.ASCII)

TEXTS = [f"{word} {width}" for word in WORDS for width in range(1, 13)] + [
    "fill 6, cut 4", "fill 6, cut 4, tail 2", "cut 4, fill 6", "cut 6, cut 4", "fill 12, cut 5, tail 3",
    "tail 3, cut 4",
    "cut 1, tail 2, tail 3", "fill 1, tail 12, tail 12, tail 12, tail 12, tail 12", "tail 1, tail 2, tail 3",
    "fill 12, tail 12, cut 5, tail 5, cut 2, tail 2", "cut 12, cut 11, cut 10, cut 9, cut 8, cut 7",
    "fill 7, tail 7, fill 7, tail 7, fill 7, tail 7", "fill 11, cut 12, tail 11, cut 12",
    "cut 5, tail 4, cut 3, fill 2",
    "fill 10, cut 3, tail 3, tail 3, tail 4", "cut 2, tail 2, cut 3, tail 3, cut 4, tail 4", "fill 3, tail 2, tail 12",
]


class ChainTest(unittest.TestCase):
    def test_text_str_and_repr(self):
        for text in TEXTS:
            for chain in (Chain(text), Chain(text=text)):
                self.assertEqual(chain.text, text)
                self.assertEqual(str(chain), text)
                self.assertEqual(repr(chain), "Chain(" + text + ")")
                self.assertIs(bool(chain), True)

    def test_equal_exactly_if_the_texts_are(self):
        for one, other in itertools.product(TEXTS, TEXTS):
            self.assertIs(Chain(one) == Chain(other), one == other)
            self.assertIs(Chain(one) != Chain(other), one != other)

    def test_chains_that_do_the_same_are_not_equal(self):
        self.assertNotEqual(Chain("cut 4, fill 6"), Chain("fill 6"))
        self.assertNotEqual(Chain("cut 4"), Chain("fill 4"))

    def test_equal_to_nothing_else(self):
        chain = Chain("fill 6, cut 4")
        for other in ["fill 6, cut 4", "Chain(fill 6, cut 4)", None, True, 0, (), [], ("fill 6", "cut 4"), b"fill 6",
                      object(), Chain, chain.number, AlwaysEqual(), Loop("ask"), (("fill", 6), ("cut", 4))]:
            self.assertIs(chain == other, False)
            self.assertIs(chain != other, True)


class ChainTextsTest(unittest.TestCase):
    def check(self, text):
        if TEXT.fullmatch(text):
            self.assertEqual(Chain(text).text, text)
        else:
            check_error(self, InvalidText, "value", text, Chain, text=text)

    def check_wrong(self, value):
        check_error(self, InvalidText, "value", value, Chain, text=value)

    def test_right_ones(self):
        for text in TEXTS:
            self.assertTrue(TEXT.fullmatch(text))
            self.check(text)

    def test_wrong_ones(self):
        for text in [
            "", " ", ",", ", ", "cut", "cut ", " cut 4", "cut 4 ", "cut4", "cut  4", "cut\t4", "cut\n4", "cut 4\n",
            "\ncut 4", "Cut 4", "CUT 4", "cut four", "4 cut", "4", "cut 4,", "cut 4, ", ",cut 4", ", cut 4",
            "cut 4,cut 3",
            "cut 4 , cut 3", "cut 4,  cut 3", "cut 4, , cut 3", "cut 4; cut 3", "cut 4 cut 3", "cut 4\ncut 3", "cut, 4",
            "cut 4, fill", "cut 4 fill 3", "cut:4", "cut-4", "cut 4.", "cut 4.0", "cut 1e1", "cut 1_0", "cut 0x4",
            "flush 4", "hand 4", "ask 4", "cuts 4", "cu 4", "tails 1", "full 3", "fil 3", "none", "Chain(cut 4)",
            "ask empty:stop hand", "cut 4, Fill 3", "cut 4, fill 3, tail",
        ]:
            with self.subTest(text=text):
                self.assertFalse(TEXT.fullmatch(text))
                self.check_wrong(text)

    def test_widths(self):
        for word, tail in itertools.product(WORDS, ("", ", cut 3")):
            for width in range(1, 13):
                self.check(f"{word} {width}{tail}")
                for wrong in (f"0{width}", f"00{width}", f"+{width}", f"-{width}", f"{width} ", f" {width}",
                              f"{width}0x", f"{width}.", f"({width})", f"{width}_", f"{width}00"):
                    self.check_wrong(f"{word} {wrong}{tail}")
            for wrong in ("0", "-0", "-1", "13", "14", "20", "99", "100", "120", "1000000", "9" * 400, "", "00", "x",
                          "1 2"):
                self.check_wrong(f"{word} {wrong}{tail}")

    def test_other_digits_than_the_ascii_ones(self):
        for digit in ("\u0664", "\u0967", "\uff11", "\u00b9", "\u00b2", "\u2460", "\u4e00", "\U0001d7cf", "\u2163"):
            for width in (digit, digit * 2, "1" + digit, digit + "1"):
                self.check_wrong("cut " + width)
                self.check_wrong("fill 6, tail " + width)

    def test_other_spaces_and_commas(self):
        for space in ("\u00a0", "\u2003", "\t", "\n", "\u200b", "_", ""):
            self.check_wrong("cut" + space + "4")
            self.check_wrong("cut 4," + space + "cut 3")
        for comma in ("\uff0c", "\u3001", ";", ".", "|", " |", ""):
            self.check_wrong("cut 4" + comma + " cut 3")

    def test_numbers_of_cutters(self):
        for word in WORDS:
            for many in range(1, 7):
                self.check(", ".join([word + " 5"] * many))
                self.assertEqual(Chain(", ".join([word + " 5"] * many)).text.count(word), many)
            for many in (7, 8, 12, 50):
                self.check_wrong(", ".join([word + " 5"] * many))

    def test_a_character_put_in_left_out_or_exchanged(self):
        for text in TEXTS[::5]:
            for place in range(len(text) + 1):
                self.check(text[:place] + text[place + 1:])
                self.check(text[:place] + text[place:place + 2][::-1] + text[place + 2:])
                for character in " ,cflt0123A\n":
                    self.check(text[:place] + character + text[place:])
                    self.check(text[:place] + character + text[place + 1:])

    def test_words_put_in_left_out_or_exchanged(self):
        chance = random.Random(31)
        for _ in range(400):
            words = random_chain(chance, 7).split(" ")
            place, other = chance.randrange(len(words)), chance.randrange(len(words))
            self.check(" ".join(words))
            self.check(" ".join(words[:place] + words[place + 1:]))
            self.check(" ".join(words[:place] + [chance.choice(["cut", "fill", "3,", "3", "", ","])] + words[place:]))
            words[place], words[other] = words[other], words[place]
            self.check(" ".join(words))

    def test_values_that_are_no_strings(self):
        for value in ANYTHING + [b"cut 4", ("cut", 4), ["cut 4"], {"cut": 4}, Chain("cut 4"), Chain]:
            with self.subTest(value=type(value)):
                self.check_wrong(value)


class PiecesTest(unittest.TestCase):
    def check(self, text, items):
        """Compare everything with the row made cutter by cutter."""
        chain, row = Chain(text), plain_row(text, items)
        self.assertEqual(chain.number(items), len(row), (text, items))
        first = 0
        for place, size in enumerate(row):
            self.assertEqual(chain.piece(items, place), (first, size), (text, items))
            for item in (first, first + size // 2, first + size - 1):
                self.assertEqual(chain.place_of(items, item), place, (text, items, item))
            first += size
        self.assertEqual(first, items)

    def test_example_of_the_document(self):
        chain = Chain("fill 6, cut 4, tail 2")
        self.assertEqual(
            [chain.number(13), chain.piece(13, 3), chain.place_of(13, 12), chain.number(6 * 10 ** 17), repr(chain)],
            [4, (10, 3), 3, 200000000000000000, "Chain(fill 6, cut 4, tail 2)"])

    def test_no_items(self):
        for text in TEXTS:
            self.assertEqual(Chain(text).number(0), 0)
            check_error(self, InvalidPlace, "value", 0, Chain(text).piece, items=0, place=0)
            check_error(self, InvalidPlace, "value", 0, Chain(text).place_of, items=0, item=0)

    def test_small_numbers(self):
        for text in TEXTS:
            for items in range(61):
                self.check(text, items)

    def test_other_chains(self):
        chance = random.Random(32)
        for _ in range(250):
            text = random_chain(chance, 6)
            for items in [*range(0, 30, 3), *[chance.randint(0, 150) for _ in range(4)]]:
                self.check(text, items)

    def test_every_item_of_a_row(self):
        for text in TEXTS[36:]:
            places = [place for place, size in enumerate(plain_row(text, 77)) for _ in range(size)]
            self.assertEqual([Chain(text).place_of(77, item) for item in range(77)], places)

    def test_by_keyword(self):
        chain = Chain("fill 6, cut 4, tail 2")
        self.assertEqual(chain.number(items=13), 4)
        self.assertEqual(chain.piece(place=3, items=13), (10, 3))
        self.assertEqual(chain.place_of(item=12, items=13), 3)

    def test_kinds_of_the_results(self):
        chain = Chain("cut 3, tail 2")
        self.assertEqual([type(chain.number(7)), type(chain.place_of(7, 0)), type(chain.piece(7, 0))],
                         [int, int, tuple])
        self.assertEqual([type(number) for number in chain.piece(7, 1)], [int, int])


def widths_of(text):
    return [int(cutter.split()[1]) for cutter in text.split(", ")]


class GreatNumbersTest(unittest.TestCase):
    """A great row is like a smaller one with the same last pieces, and with more of the same in front of them."""

    def numbers(self, period):
        for near in (10 ** 17, 10 ** 18 - 3 * period, GREATEST, 5 * 10 ** 17):
            base = near // period * period
            for items in (base - 1, base, base + 1, base + period // 2, near):
                if items <= GREATEST:
                    yield items

    def check(self, text, items):
        chain = Chain(text)
        # All widths of the chain divide this, and the last pieces reach back less far.
        period = math.lcm(200, *widths_of(text))
        small = items % period + period
        row = plain_row(text, small)
        if not re.search("cut|fill", text):
            self.assertEqual((chain.number(items), chain.piece(items, 0)), (1, (0, items)))
            self.assertEqual((chain.place_of(items, 0), chain.place_of(items, items - 1)), (0, 0))
            return
        in_front = len(plain_row(text, small + period)) - len(row)
        turns = (items - small) // period
        number = turns * in_front + len(row)
        self.assertEqual(chain.number(items), number, (text, items))
        first = 0
        for place in range(4):
            self.assertEqual(chain.piece(items, place), (first, row[place]), (text, items, place))
            self.assertEqual(chain.place_of(items, first), place)
            first += row[place]
            self.assertEqual(chain.place_of(items, first - 1), place)
        behind = items
        for back in range(1, 15):
            size = row[-back]
            self.assertEqual(chain.piece(items, number - back), (behind - size, size), (text, items, back))
            self.assertEqual(chain.place_of(items, behind - 1), number - back)
            self.assertEqual(chain.place_of(items, behind - size), number - back)
            behind -= size
        check_error(self, InvalidPlace, "value", number, chain.piece, items=items, place=number)
        check_error(self, InvalidPlace, "value", items, chain.place_of, items=items, item=items)

    def test_great_numbers(self):
        start = time.monotonic()
        chance = random.Random(33)
        for text in TEXTS[::6] + TEXTS[36:] + [random_chain(chance, 6) for _ in range(6)]:
            for items in self.numbers(max(widths_of(text))):
                self.check(text, items)
        self.assertLess(time.monotonic() - start, 120)

    def test_places_in_the_middle(self):
        chance = random.Random(34)
        for text in TEXTS[36:]:
            chain = Chain(text)
            for items in (GREATEST, 10 ** 17 + 7):
                number = chain.number(items)
                for place in [chance.randrange(number) for _ in range(20)]:
                    first, size = chain.piece(items, place)
                    self.assertEqual(chain.place_of(items, first), place)
                    self.assertEqual(chain.place_of(items, first + size - 1), place)
                    if place:
                        self.assertEqual(sum(chain.piece(items, place - 1)), first)

    def test_known_ones(self):
        for text, items, number, last in [
            ("fill 1", GREATEST, GREATEST, (GREATEST - 1, 1)),
            ("tail 12", GREATEST, 1, (0, GREATEST)),
            ("cut 7", 7 * 10 ** 17, 10 ** 17, (7 * 10 ** 17 - 7, 7)),
            ("cut 7", 7 * 10 ** 17 + 1, 10 ** 17 + 1, (7 * 10 ** 17, 1)),
            ("cut 7, tail 2", 7 * 10 ** 17 + 1, 10 ** 17, (7 * 10 ** 17 - 7, 8)),
            ("cut 7, tail 2", 7 * 10 ** 17 - 1, 10 ** 17, (7 * 10 ** 17 - 7, 6)),
            ("fill 1, tail 12, tail 12", 10 ** 17, 10 ** 17 - 2, (10 ** 17 - 3, 3)),
        ]:
            chain = Chain(text)
            self.assertEqual((chain.number(items), chain.piece(items, number - 1)), (number, last))


class ChainErrorsTest(unittest.TestCase):
    NO_ITEMS = [value for value in ANYTHING if not isinstance(value, int) or isinstance(value, bool)] + [
        -1, -2, -10 ** 18, 10 ** 18, 10 ** 18 + 1, 10 ** 19, 10 ** 20 - 1, -10 ** 19, "13", (13,), [13], {13: 1}]
    NO_PLACES = [value for value in ANYTHING if not isinstance(value, int) or isinstance(value, bool)] + [
        -1, -2, -10 ** 19, 10 ** 19, "0", (0,), [0], {0: 0}]

    def test_no_items(self):
        for wrong in self.NO_ITEMS:
            for text in ("fill 6, cut 4, tail 2", "tail 1", "cut 1"):
                chain = Chain(text)
                with self.subTest(wrong=type(wrong)):
                    check_error(self, InvalidItems, "value", wrong, chain.number, items=wrong)
                    for place in (0, -1, None, True, [], wrong):
                        check_error(self, InvalidItems, "value", wrong, chain.piece, items=wrong, place=place)
                        check_error(self, InvalidItems, "value", wrong, chain.place_of, items=wrong, item=place)

    def test_no_places(self):
        for wrong in self.NO_PLACES:
            for items in (0, 1, 13, GREATEST):
                chain = Chain("fill 6, cut 4, tail 2")
                with self.subTest(wrong=type(wrong)):
                    check_error(self, InvalidPlace, "value", wrong, chain.piece, items=items, place=wrong)
                    check_error(self, InvalidPlace, "value", wrong, chain.place_of, items=items, item=wrong)

    def test_right_below_and_behind_the_right_ones(self):
        for text, items in itertools.product(TEXTS, (0, 1, 2, 5, 12, 13, 24, 35, 10 ** 17, GREATEST)):
            chain = Chain(text)
            number = chain.number(items)
            for wrong in (-1, number, number + 1):
                check_error(self, InvalidPlace, "value", wrong, chain.piece, items=items, place=wrong)
            for wrong in (-1, items, items + 1):
                check_error(self, InvalidPlace, "value", wrong, chain.place_of, items=items, item=wrong)

    def test_no_chains(self):
        for wrong in NO_CHAINS:
            with self.subTest(wrong=type(wrong)):
                check_error(self, NotAChain, "value", wrong, first_difference, chain=wrong, other_chain=Chain("cut 1"))
                check_error(self, NotAChain, "value", wrong, first_difference, chain=Chain("cut 1"), other_chain=wrong)
                for other in (None, "cut 1", []):
                    check_error(self, NotAChain, "value", wrong, first_difference, chain=wrong, other_chain=other)


class FirstDifferenceTest(unittest.TestCase):
    def setUp(self):
        self.rows = {}

    def plain(self, text, most):
        if text not in self.rows:
            self.rows[text] = [plain_row(text, items) for items in range(most + 1)]
        return self.rows[text]

    def check(self, text, other, most):
        one, two = self.plain(text, most), self.plain(other, most)
        expected = next((items for items in range(most + 1) if one[items] != two[items]), None)
        self.assertEqual(first_difference(Chain(text), Chain(other)), expected, (text, other))
        self.assertEqual(first_difference(Chain(other), Chain(text)), expected, (other, text))
        return expected

    def test_examples_of_the_document(self):
        self.assertEqual(first_difference(Chain("fill 6, cut 4"), Chain("fill 4")), 7)
        self.assertIsNone(first_difference(Chain("cut 4, fill 6"), Chain("fill 6")))

    def test_chains_written_otherwise(self):
        for text, other in [
            ("cut 4", "fill 4"), ("cut 4, fill 6", "fill 6"), ("tail 3", "tail 12"),
            ("tail 3", "tail 1, tail 2, tail 5"),
            ("tail 5, cut 3", "fill 3"), ("fill 6, cut 3", "fill 3"), ("fill 12, cut 4", "cut 4"),
            ("cut 4, cut 12", "cut 4"),
            ("fill 5, tail 1", "fill 5"), ("fill 4, cut 6", "fill 4"), ("fill 12, cut 6, cut 3", "fill 3"),
            ("cut 9, tail 4, fill 7, cut 3", "fill 7, cut 3"), ("fill 1, tail 2", "fill 1, tail 12"),
            ("fill 5, tail 6", "fill 5, tail 12"), ("fill 2, tail 3, cut 2", "fill 2, tail 3, fill 2"),
            ("fill 3, tail 3, cut 6", "fill 3, tail 3"), ("fill 3, tail 3, cut 12", "cut 3, tail 3"),
        ]:
            self.assertIsNone(self.check(text, other, 300), (text, other))

    def test_known_ones(self):
        for text, other, expected in [
            ("fill 1", "tail 1", 2), ("fill 12", "tail 12", 13), ("fill 11", "fill 12", 12),
            ("fill 5", "fill 5, tail 2", 6),
            ("fill 5", "fill 5, tail 5", 6), ("fill 5", "fill 5, tail 6", 6), ("fill 5, tail 5", "fill 5, tail 6", 10),
            ("fill 1, tail 2", "fill 1, tail 2, tail 2", None), ("fill 1, tail 2", "fill 1, tail 2, tail 3", 3),
            ("fill 12, tail 12", "tail 1", 24), ("fill 12, cut 5", "fill 10, cut 5", 13),
            ("fill 12, cut 6", "fill 6", None),
            ("fill 12, tail 11", "fill 12, tail 12", 23), ("fill 12, tail 12, cut 11", "fill 11", 24),
        ]:
            with self.subTest(text=text, other=other):
                self.assertEqual(self.check(text, other, 300), expected)

    def test_all_pairs_of_the_texts(self):
        found = set()
        for text, other in itertools.combinations_with_replacement(TEXTS, 2):
            found.add(self.check(text, other, 150))
        self.assertIn(None, found)
        self.assertGreater(len(found), 10)

    def test_pairs_of_other_chains(self):
        chance = random.Random(35)
        texts = [random_chain(chance, 6) for _ in range(30)] + [random_chain(chance, 2) for _ in range(20)]
        for text, other in itertools.combinations(texts, 2):
            self.check(text, other, 300)

    def test_chains_and_ones_changed_by_a_cutter(self):
        chance = random.Random(36)
        found = {None: 0, "different": 0}
        for _ in range(250):
            cutters = random_chain(chance, 6).split(", ")
            other = list(cutters)
            other[chance.randrange(len(other))] = random_chain(chance, 1)
            found["different" if self.check(", ".join(cutters), ", ".join(other), 300) is not None else None] += 1
        self.assertGreater(min(found.values()), 20)

    def test_chains_that_agree_do_so_for_great_numbers(self):
        for text, other in [("tail 5, cut 3", "fill 3"), ("fill 6, cut 3", "fill 3"),
                            ("fill 3, tail 3, cut 6", "fill 3, tail 3"),
                            ("cut 9, tail 4, fill 7, cut 3", "fill 7, cut 3")]:
            one, two = Chain(text), Chain(other)
            self.assertIsNone(first_difference(one, two))
            for items in (GREATEST, GREATEST - 1, 10 ** 17, 10 ** 17 + 1, 12345):
                number = one.number(items)
                self.assertEqual(two.number(items), number)
                for place in (0, 1, 2, number // 2, number - 3, number - 2, number - 1):
                    self.assertEqual(one.piece(items, place), two.piece(items, place))

    def test_by_keyword(self):
        self.assertEqual(first_difference(other_chain=Chain("fill 4"), chain=Chain("fill 6, cut 4")), 7)


class WidthsSeenTest(unittest.TestCase):
    def test_examples_of_the_document(self):
        self.assertEqual(widths_seen((4, 4, 1)), (4,))
        self.assertEqual(widths_seen((5,)), (5, 6, 7, 8, 9, 10, 11, 12))

    def test_known_ones(self):
        for sizes, expected in [
            ((), tuple(range(1, 13))), ((1,), tuple(range(1, 13))), ((12,), (12,)), ((13,), ()), ((1000,), ()),
            ((1, 1), (1,)), ((1, 2), ()), ((2, 1), (2,)), ((4, 4, 5), ()), ((4, 4, 4), (4,)), ((4, 3, 4), ()),
            ((3, 4, 4), ()), ((12, 12), (12,)), ((12, 1), (12,)), ((13, 13), ()), ((13, 1), ()), ((12, 13), ()),
            ((1,) * 100, (1,)), ((7,) * 99 + (3,), (7,)), ((7,) * 99 + (8,), ()), ((1000,) * 100, ()),
            ((7,) * 50 + (6,) + (7,) * 49, ()), ((11, 11, 11), (11,)), ((6, 6, 7), ()), ((5, 12), ()),
        ]:
            with self.subTest(sizes=sizes):
                self.assertEqual(widths_seen(sizes), expected)
                self.assertEqual(widths_seen(sizes=sizes), expected)
                self.assertIs(type(widths_seen(sizes)), tuple)

    def test_all_short_tuples(self):
        for many in range(4):
            for sizes in itertools.product(range(1, 15), repeat=many):
                expected = tuple(width for width in range(1, 13) if tuple(cut_up(sum(sizes), width)) == sizes)
                self.assertEqual(widths_seen(sizes), expected)

    def test_wrong_ones(self):
        for wrong in [value for value in ANYTHING if not isinstance(value, tuple)] + [
                (0,), (1001,), (-1,), (True,), (False,), (4, 4, True), (4, False), (4, 0), (4, 1001), (4, 4, "4"),
                ("4",),
                (None,), ((4,),), ([4],), (4, [4]), (10 ** 19,), (-10 ** 19,), (4,) * 101, (4,) * 100 + (0,),
                (1,) * 200,
                [4], [4, 4], [], {4: 4}, {4}, "4", b"44", range(4), 4, (AlwaysEqual(),), (...,)]:
            with self.subTest(wrong=type(wrong)):
                check_error(self, InvalidPlace, "value", wrong, widths_seen, sizes=wrong)


if __name__ == "__main__":
    unittest.main()
