"""Chains of cutters: what pieces they make of a number of items, and where two of them differ."""

from lastshort.checks import is_integer_between
from lastshort.errors import InvalidItems, InvalidPlace, InvalidText, NotAChain
from lastshort.limits import MOST_CUTTERS, MOST_ITEMS, MOST_WIDTH
from lastshort.rows import CUTTERS, whole_row

# The greatest number with 18 digits.
MOST_CHAIN_ITEMS = 999999999999999999
MOST_SIZES = 100

# What comes before the last `fill` of a chain does not matter (and a `cut` of the one piece at the start is a `fill`).
# Behind it the row repeats itself with the width of that `fill`, up to the last pieces: at most five cutters `tail`
# reach back over at most six of these widths, behind which less than one is left over. So a row of 216 items has its
# first 132 items, where any two widths have met again, before its last pieces. If two chains agree up to this number,
# they agree for all greater ones: where their widths meet, both rows have the same pieces in front, and behind them the
# row of a smaller number.
MOST_TELLING = 216


def cutter_of(text):
    """Take the text of a cutter apart into its word and its width; return None if it is none."""
    word, space, digits = text.partition(" ")
    widths = [str(width) for width in range(1, MOST_WIDTH + 1)]
    return (word, int(digits)) if word in CUTTERS and digits in widths else None


def check_chain(chain):
    if not isinstance(chain, Chain):
        raise NotAChain(chain)


def check_chain_items(items):
    if not is_integer_between(items, 0, MOST_CHAIN_ITEMS):
        raise InvalidItems(items)


class Chain:
    """Cutters that are applied one after another to a row of pieces."""

    def __init__(self, text):
        if not isinstance(text, str):
            raise InvalidText(text)
        cutters = [cutter_of(part) for part in text.split(", ")]
        if None in cutters or len(cutters) > MOST_CUTTERS:
            raise InvalidText(text)
        self.text = text
        self.cutters = tuple(cutters)

    def __eq__(self, other):
        return isinstance(other, Chain) and self.text == other.text

    def __str__(self):
        return str(self.text)

    def __repr__(self):
        return f"Chain({self.text})"

    def number(self, items):
        """Return the number of pieces."""
        check_chain_items(items)
        return self.row_of(items).many()

    def piece(self, items, place):
        """Return the first item of the piece with this place, and how many it has."""
        check_chain_items(items)
        row = self.row_of(items)
        if not is_integer_between(place, 0, row.many() - 1):
            raise InvalidPlace(place)
        return row.piece_at(place)

    def place_of(self, items, item):
        """Return the place of the piece that contains this item."""
        check_chain_items(items)
        if not is_integer_between(item, 0, items - 1):
            raise InvalidPlace(item)
        return self.row_of(items).place_with(item)

    def row_of(self, items):
        """Return the row of pieces that the cutters make of these items."""
        row = whole_row(items)
        for word, width in self.cutters:
            cutter = CUTTERS[word]
            row = cutter(row, width)
        return row


def are_split(chain, other_chain, items):
    return chain.row_of(items).sizes() != other_chain.row_of(items).sizes()


def first_difference(chain, other_chain):
    """Return the smallest number of items for which the chains give different pieces, or None."""
    check_chain(chain)
    check_chain(other_chain)
    for items in range(MOST_TELLING + 1):
        if are_split(chain, other_chain, items):
            return items
    return None


def are_sizes(value):
    if not isinstance(value, tuple) or len(value) > MOST_SIZES:
        return False
    return all([is_integer_between(size, 1, MOST_ITEMS) for size in value])


def is_filled(sizes, width):
    """Tell whether `fill` with this width gives pieces with these sizes."""
    return all([size == width for size in sizes[:-1]]) and all([size <= width for size in sizes[-1:]])


def widths_seen(sizes):
    """Return the widths for which `fill` alone gives pieces with these sizes."""
    if not are_sizes(sizes):
        raise InvalidPlace(sizes)
    return tuple([width for width in range(1, MOST_WIDTH + 1) if is_filled(sizes, width)])
