"""Executing the words of a loop, round by round."""


class Execution:
    """A loop at work: its piece (`held`), its rest (`kept`), and the pieces that it has handed on.

    An order is a word taken apart, a pair of its test, which is empty if there is none, and its step.
    """

    def __init__(self, round_orders, ending_orders, size, kept):
        self.round_orders = round_orders
        self.ending_orders = ending_orders
        self.size = size
        self.held = ()
        self.told = False
        self.kept = kept
        self.handed = []
        self.asked = 0
        self.over = False

    def answer(self, held, told):
        """Execute a round in which the source hands out these items, and the ending if the round is left."""
        self.held = held
        self.told = told
        self.asked += 1
        for test, step in self.round_orders:
            if self.passes(test):
                if step == "again":
                    return
                if step == "stop":
                    self.finish()
                    return
                self.perform(step)

    def answer_nothing(self, told):
        """Execute rounds without items until the loop has stopped, or until it is plain that it never will."""
        many = -1
        # Without new items only a change of the rest can make the next round another one.
        while not self.over and len(self.kept) != many:
            many = len(self.kept)
            self.answer((), told)

    def finish(self):
        for test, step in self.ending_orders:
            if self.passes(test):
                self.perform(step)
        self.over = True

    def passes(self, test):
        if test == "":
            return True
        if test in ("told", "open"):
            return self.told == (test == "told")
        if test in ("rest", "bare"):
            return (len(self.kept) > 0) == (test == "rest")
        if test in ("empty", "some"):
            return (len(self.held) > 0) == (test == "some")
        return (len(self.held) < self.size) == (test == "short")

    def perform(self, step):
        # The step "ask" has been done by whoever brought the reply.
        if step == "add":
            self.kept = self.kept + self.held
        elif step == "hand":
            self.handed.append(self.held)
        elif step == "cut":
            self.cut_off()
        elif step == "flush":
            self.handed.append(self.kept)
            self.kept = ()

    def cut_off(self):
        """Hand on full pieces from the beginning of the rest, as long as there are any."""
        end = len(self.kept) // self.size * self.size
        for start in range(0, end, self.size):
            self.handed.append(self.kept[start:start + self.size])
        self.kept = self.kept[end:]
