"""Whether replies that a source can give are a fault of a property, seen by executing the loop once more.

`work` is the loop at work behind all replies, and `before` is it behind all but the last one.
"""


def is_uneven(work):
    """Tell whether a piece is too long, or comes later than one that is too short."""
    sizes = [len(held) for held in work.handed]
    too_long = [size for size in sizes if size > work.size]
    too_short = [size for size in sizes[:-1] if size < work.size]
    return len(too_long + too_short) > 0


def breaks_whole(before, work, items):
    handed = [item for held in work.handed for item in held]
    return work.over and handed != list(range(items))


def breaks_filled(before, work, items):
    return () in work.handed and () not in before.handed


def breaks_even(before, work, items):
    return is_uneven(work) and not is_uneven(before)


BREAKS = {
    "whole": breaks_whole,
    "filled": breaks_filled,
    "even": breaks_even,
}


def breaks_quiet(work, replies):
    earlier = [told for count, told in replies[:-1]]
    return work.told and not work.over and True not in earlier


def breaks_ends(work, source, items, replies):
    counts = [count for count, told in replies]
    # The last of the replies is the one with the last item; without items there is none.
    if sum(counts) != items or counts[-1:] == [0]:
        return False
    work.answer_nothing(source.must_tell(0, 0))
    return not work.over


def is_fault(loop, source, name, items, size, replies):
    """Tell whether these replies, which the source must be able to give, are a fault of the property."""
    work = loop.work_through(size, replies)
    if work.asked < len(replies):
        return False
    if name == "quiet":
        return breaks_quiet(work, replies)
    if name == "ends":
        return breaks_ends(work, source, items, replies)
    breaks = BREAKS[name]
    return breaks(loop.work_through(size, replies[:-1]), work, items)
