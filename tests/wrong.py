"""Arguments that are wrong, and a way to see what is said of them."""

from lastshort.chains import Chain
from lastshort.loops import Loop
from lastshort.readings import Reading
from lastshort.samples import sample_loop, sample_source
from lastshort.sources import Source


def nested(depth):
    value = ()
    for _ in range(depth - 1):
        value = (value, [value])
    return value


class AlwaysEqual:
    """Something that a comparison alone would take for anything."""

    def __eq__(self, other):
        return True

    def __hash__(self):
        return 1


class NeverCompared:
    """Something that must not be compared, hashed or measured."""

    def __eq__(self, other):
        raise TypeError("compared")

    def __bool__(self):
        raise TypeError("asked for its truth")

    def __len__(self):
        raise TypeError("measured")

    __hash__ = None


ANYTHING = [None, True, False, 0, 1, -1, 10 ** 19, "", "x", "x" * 500, b"", b"x", (), (1,), [], [1], {}, {"x": 1}, {1},
            object(), int, len, ..., range(2), nested(15), AlwaysEqual(), NeverCompared()]

NO_LOOPS = ANYTHING + ["ask", "ask empty:stop hand", b"ask", ("ask",), ["ask"], {"ask": 1}, {"ask"}, Loop,
                       Loop("ask").run, sample_source(), [[["ask"]]], Chain("cut 1"), Reading(Loop("ask"), 1)]
NO_SOURCES = ANYTHING + ["short prompt empty", ("short", "prompt", "empty"), ["short", "prompt", "empty"], {"short"},
                         Source, sample_loop(), sample_source]
NO_CHAINS = ANYTHING + ["cut 1", "fill 6, cut 4", b"cut 1", ("cut", 1), ["cut 1"], {"cut": 1}, Chain,
                        Chain("cut 1").number, sample_loop(), sample_source()]
NO_READINGS = ANYTHING + ["Reading(0 replies)", Reading, Reading(Loop("ask"), 1).feed, Loop("ask"), sample_source(),
                          Reading(Loop("ask"), 1).trial(), (((1, False),), 1)]
NO_SIZES = [value for value in ANYTHING if not isinstance(value, int) or isinstance(value, bool)] + [
    0, -1, 1001, 1002, 10 ** 19, -10 ** 19, "1", (3,), [3], {3}]
NO_ENDS = ANYTHING + ["Empty", "EMPTY", "empty ", " with", "with\n", "exact", "short", "prompt", "waiting", "behin",
                      "empty with", "exact prompt empty", "full", "told", b"with", ("with",), ["with"], {"with": 1},
                      {"behind"}, ("empty", "with", "behind"), sample_source()]
NO_NAMES = ANYTHING + ["Whole", "WHOLE", "whole ", " whole", "whole\n", "whol", "end", "wholes", "whole filled",
                       "empty", "short", "told", "fault", "always", b"whole", ("whole",), ["whole"], {"whole": 1},
                       {"whole"}, ("whole", "filled", "even", "quiet", "ends"), [[["ends"]]]]


def check_error(test, error, attribute, wrong, act, /, **arguments):
    """See that this error comes, by place and by name in either order, with the wrong one in its attribute."""
    for call in (lambda: act(*arguments.values()), lambda: act(**arguments),
                 lambda: act(**dict(reversed(list(arguments.items()))))):
        with test.assertRaises(error) as caught:
            call()
        test.assertIs(type(caught.exception), error)
        test.assertIs(getattr(caught.exception, attribute), wrong)
