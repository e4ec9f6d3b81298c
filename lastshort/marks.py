"""What the properties of a loop remember of a run, and when they find a fault in it.

A mark is what has to be known of the rounds so far. The items are numbered here so that item 0 is the one that has to
be handed on next; `behind` is the number behind the last item that the source has handed out.
"""

FINE = "fine"
# For "even": a piece that is too short has been handed on.
SHORT = "short"
# For "whole": all items so far have been handed on, and the rest holds some of them once more.
TWICE = "twice"
# For "whole": whatever is handed on from now on, it will not be every item once and in order.
LOST = "lost"
FAULT = "fault"

NAMES = ("whole", "filled", "even", "quiet", "ends")


def mark_whole(mark, work, behind, left):
    handed = [item for held in work.handed for item in held]
    if mark == LOST or handed != list(range(len(handed))):
        return FAULT if work.over else LOST
    if work.over:
        return FINE if len(handed) == behind and left == 0 else FAULT
    if work.kept == tuple(range(len(handed), behind)):
        return FINE
    return TWICE if len(handed) == behind else LOST


def mark_filled(mark, work, behind, left):
    return FAULT if () in work.handed else FINE


def mark_even(mark, work, behind, left):
    for held in work.handed:
        if mark == SHORT or len(held) > work.size:
            return FAULT
        if len(held) < work.size:
            mark = SHORT
    return mark


def mark_quiet(mark, work, behind, left):
    return FAULT if work.told and not work.over else FINE


def mark_ends(mark, work, behind, left):
    # That a loop goes on for ever is seen from the state behind the last item, not from a round.
    return FINE


MARKERS = {
    "whole": mark_whole,
    "filled": mark_filled,
    "even": mark_even,
    "quiet": mark_quiet,
    "ends": mark_ends,
}
