"""Comparing loops, with sources that are exact and prompt.

Such a source hands out full pieces, then perhaps a part of one, and then nothing more. A loop sees no more of the size
than which of these has come, and it cuts a rest only between pieces that have come. So two loops are unlike for all
numbers of items and sizes with as many full pieces and a part, or for none of them; and likewise without a part.
"""

from lastshort.loops import check_loop
from lastshort.sources import ENDS, Source, check_word

# With the size 1 there is no part. With the size 2 and an odd number of items there is one; so these two sizes, with
# the least numbers of items, stand for all others.
TELLING_SIZES = (1, 2)

# In its first two rounds with a full piece a loop stops, or its rest becomes what it is in all later ones: empty, the
# first piece, the last piece, or all pieces so far. (It is not empty in every other round: as soon as a round that
# began with an empty rest has added its piece, it goes on like one that began with another rest.) From then on each
# further full piece only puts the same pieces in once more, with the next numbers. What is handed on before and behind
# that contains at most the first two and the last two full pieces by themselves, so it cannot stand for what is put in;
# if two rows of pieces differ for any number of full pieces, they differ for one up to 8. With so many items there are
# up to 30 of them without a part, and up to 14 with one.
MOST_TELLING = 30

# A form of `rounds` tells the numbers for so many numbers of full pieces.
TABLE = 5


def check_end(end):
    check_word(end, ENDS)


def exact_work(loop, end, items, size):
    """Return the loop at work, with such a source, behind its stop or where it is plain that it never stops."""
    source = Source("exact", "prompt", end)
    work = loop.execution(size, ())
    first = 0
    while first < items and not work.over:
        behind = min(first + size, items)
        work.answer(tuple(range(first, behind)), source.must_tell(items - first, items - behind))
        first = behind
    work.answer_nothing(source.must_tell(0, 0))
    return work


def pieces_at(loop, end, items, size):
    """Return the list of the pieces that the loop has handed on when it stops, or None if it never stops."""
    work = exact_work(loop, end, items, size)
    return work.handed if work.over else None


def is_unlike(loop, other_loop, end, items, size):
    return pieces_at(loop, end, items, size) != pieces_at(other_loop, end, items, size)


def first_unlike(loop, other_loop, end):
    """Return the least numbers of items and size for which the loops are unlike, or None if they are alike."""
    check_loop(loop)
    check_loop(other_loop)
    check_end(end)
    for items in range(MOST_TELLING + 1):
        for size in TELLING_SIZES:
            if is_unlike(loop, other_loop, end, items, size):
                return items, size
    return None


def alike(loop, other_loop, end):
    """Tell whether the loops stop for the same numbers, and have handed on the same pieces then."""
    return first_unlike(loop, other_loop, end) is None


def asked_at(loop, end, items, size):
    """Return how often the source is asked, or None if the loop never stops."""
    work = exact_work(loop, end, items, size)
    return work.asked if work.over else None


def form_of(loop, end, size):
    """Return one of the forms of `rounds`: with the size 1 the one without a part, with the size 2 the other one."""
    numbers = [asked_at(loop, end, many * size + size - 1, size) for many in range(TABLE + 1)]
    last = numbers[TABLE - 1]
    step = 0 if last is None else numbers[TABLE] - last
    return tuple(numbers[:TABLE]), step


def rounds(loop, end):
    """Tell how often the source is asked, for numbers of items that are multiples of the size, and for others."""
    check_loop(loop)
    check_end(end)
    without_part, with_part = TELLING_SIZES
    return form_of(loop, end, without_part), form_of(loop, end, with_part)
