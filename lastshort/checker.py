"""The checker of certificates: whether a paper shows a claim."""

from lastshort.chains import Chain, are_split, first_difference
from lastshort.checks import is_integer_between
from lastshort.comparing import check_end, is_unlike
from lastshort.errors import InputError, InvalidText
from lastshort.faults import is_fault
from lastshort.judging import always, check_name
from lastshort.limits import MOST_ITEMS
from lastshort.loops import Loop
from lastshort.sources import Source

# The greatest number of items, and the greatest size, in a paper that shows that loops are unlike.
MOST_UNLIKE = 30


def is_tuple_of(value, many):
    return isinstance(value, tuple) and len(value) == many


def source_of(text):
    words = text.split(" ") if isinstance(text, str) else []
    if len(words) != 3:
        raise InvalidText(text)
    amount, patience, end = words
    return Source(amount, patience, end)


def shows_always(claim, paper):
    return is_tuple_of(paper, 0) and always(Loop(claim[1]), source_of(claim[2]), claim[3])


def shows_fault(claim, paper):
    loop = Loop(claim[1])
    source = source_of(claim[2])
    name = claim[3]
    check_name(name)
    if not is_tuple_of(paper, 3):
        return False
    items, size, replies = paper
    return source.allows(items, size, replies) and is_fault(loop, source, name, items, size, replies)


def shows_unlike(claim, paper):
    loop = Loop(claim[1])
    other_loop = Loop(claim[2])
    end = claim[3]
    check_end(end)
    if not is_tuple_of(paper, 2):
        return False
    items, size = paper
    if not is_integer_between(items, 0, MOST_UNLIKE) or not is_integer_between(size, 1, MOST_UNLIKE):
        return False
    return is_unlike(loop, other_loop, end, items, size)


def shows_chains(claim, paper):
    return is_tuple_of(paper, 0) and first_difference(Chain(claim[1]), Chain(claim[2])) is None


def shows_split(claim, paper):
    return is_integer_between(paper, 0, MOST_ITEMS) and are_split(Chain(claim[1]), Chain(claim[2]), paper)


# Claims of four parts, and claims of three.
LONG_FORMS = {
    "always": shows_always,
    "fault": shows_fault,
    "unlike": shows_unlike,
}
SHORT_FORMS = {
    "chains": shows_chains,
    "split": shows_split,
}


def form_of(claim):
    """Return the function that checks a claim of this form, or None if it has none of the forms."""
    if is_tuple_of(claim, 4) and isinstance(claim[0], str):
        return LONG_FORMS.get(claim[0])
    if is_tuple_of(claim, 3) and isinstance(claim[0], str):
        return SHORT_FORMS.get(claim[0])
    return None


def holds(claim, paper):
    """Tell whether the paper shows the claim."""
    form = form_of(claim)
    if form is None:
        return False
    try:
        return form(claim, paper)
    except InputError:
        # A part of the claim or of the paper is not what it should be.
        return False
