"""Executing the words of a loop, round by round."""


class Execution:
    """A loop at work: its piece, its rest, and the pieces that it has handed on.

    An order is a word taken apart, a pair of its test, which is empty if there is none, and its step.
    """

    def __init__(self, round_orders, ending_orders, size, rest):
        self.round_orders = round_orders
        self.ending_orders = ending_orders
        self.size = size
        self.held = ()
        self.told = False
        self.rest = rest
        self.pieces = []
        self.stopped = False

    def answer(self, held, told):
        """Execute a round in which the source hands out these items, and the ending if the round is left."""
        self.held = held
        self.told = told
        for test, step in self.round_orders:
            if self.passes(test):
                if step == "again":
                    return
                if step == "stop":
                    self.finish()
                    return
                self.perform(step)

    def finish(self):
        for test, step in self.ending_orders:
            if self.passes(test):
                self.perform(step)
        self.stopped = True

    def passes(self, test):
        if test == "":
            return True
        if test in ("told", "open"):
            return self.told == (test == "told")
        if test in ("rest", "bare"):
            return (len(self.rest) > 0) == (test == "rest")
        if test in ("empty", "some"):
            return (len(self.held) > 0) == (test == "some")
        return (len(self.held) < self.size) == (test == "short")

    def perform(self, step):
        # The step "ask" has been done by whoever brought the reply.
        if step == "add":
            self.rest = self.rest + self.held
        elif step == "hand":
            self.pieces.append(self.held)
        elif step == "cut":
            self.cut_off()
        elif step == "flush":
            self.pieces.append(self.rest)
            self.rest = ()

    def cut_off(self):
        """Hand on full pieces from the beginning of the rest, as long as there are any."""
        end = len(self.rest) // self.size * self.size
        for start in range(0, end, self.size):
            self.pieces.append(self.rest[start:start + self.size])
        self.rest = self.rest[end:]
