"""Checks of arguments that more than one module needs."""

from lastshort.errors import InvalidItems, InvalidReplies, InvalidSize
from lastshort.limits import MOST_ITEMS, MOST_REPLIES


def is_integer_between(value, low, high):
    # For Python True and False are ints, but the document does not call them integers.
    return isinstance(value, int) and not isinstance(value, bool) and low <= value <= high


def is_reply(value, most):
    if not isinstance(value, tuple) or len(value) != 2:
        return False
    count, told = value
    return is_integer_between(count, 0, most) and isinstance(told, bool)


def check_items(items):
    if not is_integer_between(items, 0, MOST_ITEMS):
        raise InvalidItems(items)


def check_size(size):
    if not is_integer_between(size, 1, MOST_ITEMS):
        raise InvalidSize(size)


def check_replies(replies, most):
    if not isinstance(replies, tuple) or len(replies) > MOST_REPLIES:
        raise InvalidReplies(None)
    for index, reply in enumerate(replies):
        if not is_reply(reply, most):
            raise InvalidReplies(index)
