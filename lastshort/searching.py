"""The search for faults of a property.

A state, before a question, is a triple (left, rest, mark): how many items the source has left, how many the rest has,
and what the property remembers. The loop sees no more of the past than the number of items in its rest.
"""

from lastshort.marks import FAULT, FINE, LOST, MARKERS, TWICE

# The model stands for all sizes and all numbers of items at once. A rest is of one of five sorts: nothing, a part of
# the size, the size itself, more than that, and a greater multiple of the size. Neither a loop nor a property can tell
# two rests of one sort apart, so one of each sort is enough. With the size 4, and 2 as the part, the pieces of 1, 2 and
# 3 items make every sort of sum that parts can have; and each row of such sums occurs with some greater size.
MODEL_SIZE = 4
MODEL_PART = 2
MODEL_FULL = 4
MODEL_MORE = 6
MODEL_MULTIPLE = 8
# In the model the number of items is open: some are left, or none.
SOME_LEFT = 1


def model_rest(rest):
    """Return the rest that stands for the one with this many items."""
    if rest == 0:
        return 0
    if rest <= MODEL_SIZE:
        return MODEL_FULL if rest == MODEL_SIZE else MODEL_PART
    return MODEL_MORE if rest % MODEL_SIZE else MODEL_MULTIPLE


class Search:
    """The search for faults of one property of a loop, with sources of one kind."""

    def __init__(self, loop, source, name):
        self.loop = loop
        self.source = source
        self.name = name

    def has_fault(self):
        """Tell whether the property has a fault, for any number of items and any size."""
        todo = [(0, 0, FINE), (SOME_LEFT, 0, FINE)]
        seen = {}
        while todo:
            state = todo.pop()
            if state in seen:
                continue
            seen[state] = True
            if self.is_fault(state, MODEL_SIZE):
                return True
            for count, left in self.model_moves(state[0]):
                following = self.state_behind(state, MODEL_SIZE, count, left)
                if following is not None:
                    todo.append((left, model_rest(following[1]), following[2]))
        return False

    def model_moves(self, left):
        """Return pairs of the items of a reply and of what is left behind it, for the model."""
        if left == 0:
            return [(0, 0)]
        last = [(count, 0) for count in range(1, MODEL_SIZE + 1)]
        far = MODEL_SIZE + 1
        return last + [(count, SOME_LEFT) for count in range(MODEL_SIZE + 1)
                       if self.source.can_hand_out(far, MODEL_SIZE, count)]

    def least_fault(self):
        """Return the least fault; there must be one."""
        items = 0
        while True:
            # If the size is greater than the number of items, it does not matter how great it is.
            for size in range(1, items + 2):
                replies = self.least_replies(items, size)
                if replies is not None:
                    return items, size, replies
            items += 1

    def least_replies(self, items, size):
        """Return the replies of the least fault with these numbers, or None if there is none."""
        start = (items, 0, FINE)
        seen = {start: True}
        layer = [(start, ())]
        while layer:
            for state, replies in layer:
                if self.is_fault(state, size):
                    return replies
            layer = self.next_layer(layer, size, seen)
        return None

    def next_layer(self, layer, size, seen):
        """Return the new states one reply further on, each with its least replies, in the order of these."""
        further = []
        for state, replies in layer:
            for count, left in self.moves(state[0], size):
                following = self.state_behind(state, size, count, left)
                if following is not None and following not in seen:
                    seen[following] = True
                    told = self.source.must_tell(state[0], left)
                    further.append((following, replies + ((count, told),)))
        return further

    def moves(self, left, size):
        """Return pairs of the items of a reply and of what is left behind it, in ascending order of the replies."""
        return [(count, left - count) for count in range(min(left, size) + 1)
                if self.source.can_hand_out(left, size, count)]

    def state_behind(self, state, size, count, left):
        """Return the state behind a round with so many items, or None if the loop has stopped without a fault."""
        before, rest, mark = state
        # What must not be handed on any more is numbered below 0.
        low = -rest if mark in (TWICE, LOST) else 0
        behind = low + rest + count
        work = self.loop.execution(size, tuple(range(low, low + rest)))
        work.answer(tuple(range(low + rest, behind)), self.source.must_tell(before, left))
        marker = MARKERS[self.name]
        mark = marker(mark, work, behind, left)
        if work.over and mark != FAULT:
            return None
        return left, len(work.kept), mark

    def is_fault(self, state, size):
        left, rest, mark = state
        if self.name == "ends":
            return left == 0 and self.never_stops(rest, size)
        return mark == FAULT

    def never_stops(self, rest, size):
        """Tell whether the loop goes on for ever if no items are left."""
        work = self.loop.execution(size, tuple(range(rest)))
        work.answer_nothing(self.source.must_tell(0, 0))
        return not work.over
