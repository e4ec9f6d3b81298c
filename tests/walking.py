"""A plain walk through all runs with few items, written from points 6 to 11 alone, and loops to try it on.

It knows nothing of the package: loops and kinds of sources are texts here, and items are kept one by one.
"""

import itertools

KINDS = [" ".join(words) for words in itertools.product(
    ("exact", "short"), ("prompt", "waiting"), ("empty", "with", "behind"))]
NAMES = ("whole", "filled", "even", "quiet", "ends")
TESTS = ("empty", "some", "short", "full", "told", "open", "rest", "bare")
STEPS = ("add", "hand", "cut", "flush", "stop", "again")
ENDING_STEPS = ("hand", "cut", "flush")


def words_with(steps):
    return [step for step in steps] + [test + ":" + step for test in TESTS for step in steps]


ROUND_WORDS = words_with(STEPS)
ENDING_WORDS = words_with(ENDING_STEPS)


def text_of(first_words, last_words):
    """The text of a loop, without the `ask` among the words."""
    text = " ".join(["ask", *first_words])
    return text + " | " + " ".join(last_words) if last_words else text


def random_text(random, most_round, most_ending):
    """A text with up to this many words behind `ask`, and in the ending."""
    first = [random.choice(ROUND_WORDS) for _ in range(random.randint(0, most_round))]
    adding = [place for place, word in enumerate(first) if word.endswith("add")]
    for place in adding[1:]:
        first[place] = random.choice([word for word in ROUND_WORDS if not word.endswith("add")])
    last = [random.choice(ENDING_WORDS) for _ in range(random.randint(0, most_ending))]
    return text_of(first, last)


class Worker:
    """The two rows of point 7, the piece and the rest."""

    def __init__(self, text, size, rest=()):
        first, _, last = text.partition(" | ")
        self.first, self.last = first.split(), last.split()
        self.size = size
        self.piece, self.told, self.rest = [], None, list(rest)
        self.handed_on, self.stopped = [], False

    def is_passed(self, test):
        return {
            "empty": not self.piece, "some": bool(self.piece),
            "short": len(self.piece) < self.size, "full": len(self.piece) == self.size,
            "told": self.told is True, "open": self.told is False,
            "rest": bool(self.rest), "bare": not self.rest,
        }[test]

    def do(self, step):
        if step == "add":
            self.rest.extend(self.piece)
        if step == "hand":
            self.handed_on.append(tuple(self.piece))
        while step == "cut" and len(self.rest) >= self.size:
            self.handed_on.append(tuple(self.rest[:self.size]))
            del self.rest[:self.size]
        if step == "flush":
            self.handed_on.append(tuple(self.rest))
            self.rest.clear()

    def round(self, piece, told):
        self.piece, self.told = list(piece), told
        leave = self.words(self.first[1:])
        if leave == "stop":
            self.words(self.last)
            self.stopped = True

    def words(self, words):
        for word in words:
            *tests, step = word.split(":")
            if all(self.is_passed(test) for test in tests):
                if step in ("stop", "again"):
                    return step
                self.do(step)
        return None


def execute(text, size, replies):
    """What `run` returns."""
    worker, used, first = Worker(text, size), 0, 0
    for count, told in replies:
        if worker.stopped:
            break
        worker.round(range(first, first + count), told)
        first, used = first + count, used + 1
    return tuple(worker.handed_on), used, worker.stopped


def possible_replies(kind, left, size):
    """The replies that a source can give if so many items are left, in ascending order."""
    amount, patience, end = kind.split()
    if left == 0:
        return [(0, end != "empty")]
    counts = [min(size, left)] if amount == "exact" else list(range(1, min(size, left) + 1))
    if patience == "waiting":
        counts.insert(0, 0)
    return [(count, end == "with" and count == left) for count in counts]


def is_uneven(pieces, size):
    return any(len(piece) > size for piece in pieces) or any(len(piece) < size for piece in pieces[:-1])


def goes_on_for_ever(text, kind, size, rest):
    worker = Worker(text, size, rest)
    for _ in range(len(rest) + 5):
        worker.round((), not kind.endswith("empty"))
        if worker.stopped:
            return False
    return True


class Walk:
    """All runs with one number of items and one size; `found` has the least replies of a fault for each name."""

    def __init__(self, text, kind, items, size):
        self.text, self.kind, self.items, self.size = text, kind, items, size
        self.found = {}
        if items == 0 and goes_on_for_ever(text, kind, size, ()):
            self.found["ends"] = ()
        # A place: how many items have come, which are in the rest, which were handed on, and whether a piece of fewer
        # items than the size was among the pieces.
        layer, seen = [((0, (), (), False), ())], {(0, (), (), False)}
        while layer:
            further = []
            for place, replies in layer:
                for reply in possible_replies(kind, items - place[0], size):
                    following = self.go(place, reply, replies + (reply,))
                    if following is not None and following not in seen:
                        seen.add(following)
                        further.append((following, replies + (reply,)))
            layer = further

    def go(self, place, reply, replies):
        come, rest, items, short = place
        count, told = reply
        worker = Worker(self.text, self.size, rest)
        worker.round(range(come, come + count), told)
        pieces = worker.handed_on
        come += count
        items += tuple(item for piece in pieces for item in piece)
        if () in pieces:
            self.found.setdefault("filled", replies)
        if is_uneven([()] * short + pieces, self.size):
            self.found.setdefault("even", replies)
        if worker.stopped:
            if items != tuple(range(self.items)):
                self.found.setdefault("whole", replies)
            return None
        if told:
            self.found.setdefault("quiet", replies)
        if count and come == self.items and goes_on_for_ever(self.text, self.kind, self.size, worker.rest):
            self.found.setdefault("ends", replies)
        return come, tuple(worker.rest), items, short or any(len(piece) < self.size for piece in pieces)


def least_faults(text, kind, most_items):
    """For each name with a fault of at most so many items, the least one."""
    found = {}
    for items in range(most_items + 1):
        for size in range(1, items + 3):
            if len(found) == len(NAMES):
                return found
            for name, replies in Walk(text, kind, items, size).found.items():
                found.setdefault(name, (items, size, replies))
    return found


def exact_run(text, end, items, size):
    """With an exact and prompt source: the pieces and how often it is asked, or None if the loop never stops."""
    worker, come, asked, empty = Worker(text, size), 0, 0, 0
    while not worker.stopped:
        [(count, told)] = possible_replies("exact prompt " + end, items - come, size)
        worker.round(range(come, come + count), told)
        come, asked, empty = come + count, asked + 1, empty + (count == 0)
        # Without new items a round that differs from the one before has taken something from the rest.
        if empty > items + 3 and not worker.stopped:
            return None
    return tuple(worker.handed_on), asked


def can_begin(kind, items, size, replies):
    """Whether a source of this kind can begin with these replies."""
    for reply in replies:
        if reply not in possible_replies(kind, items, size):
            return False
        items -= reply[0]
    return True


def is_plain_fault(text, kind, name, items, size, replies):
    """Whether this is a fault, as point 11 says; all numbers and replies must be of the right kinds."""
    if not can_begin(kind, items, size, replies):
        return False
    worker, come, seen = Worker(text, size), 0, []
    for count, told in replies:
        if worker.stopped:
            return False
        worker.round(range(come, come + count), told)
        come += count
        # What can be said behind each reply; a fault shows behind the last one, and not earlier.
        seen.append({
            "filled": () in worker.handed_on,
            "even": is_uneven(worker.handed_on, size),
            "quiet": told and not worker.stopped,
        })
    if name == "whole":
        return worker.stopped and [item for piece in worker.handed_on for item in piece] != list(range(items))
    if name == "ends":
        if worker.stopped or come != items or (replies and replies[-1][0] == 0):
            return False
        return goes_on_for_ever(text, kind, size, worker.rest)
    return [shown[name] for shown in seen].count(True) == 1 and seen[-1][name]
