"""The properties of loops: which ones hold, and the least faults of the others."""

from lastshort.errors import InvalidName
from lastshort.loops import check_loop
from lastshort.marks import NAMES
from lastshort.searching import Search
from lastshort.sources import check_source


def check_name(name):
    if not isinstance(name, str) or name not in NAMES:
        raise InvalidName(name)


def always(loop, source, name):
    """Tell whether the loop has this property for sources of this kind."""
    check_loop(loop)
    check_source(source)
    check_name(name)
    return not Search(loop, source, name).has_fault()


def failing(loop, source):
    """Return the names of the properties that the loop does not have."""
    check_loop(loop)
    check_source(source)
    return tuple([name for name in NAMES if not always(loop, source, name)])


def fault(loop, source, name):
    """Return the least fault of a property, or None if the loop has the property."""
    if always(loop, source, name):
        return None
    return Search(loop, source, name).least_fault()


def needless(loop, source):
    """Return the places of the words without which, one at a time, the loop has the same properties."""
    names = failing(loop, source)
    return tuple([place for place in range(1, len(loop)) if failing(loop.without(place), source) == names])
