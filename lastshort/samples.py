"""A loop and a kind of sources to begin with."""

from lastshort.loops import Loop
from lastshort.sources import Source


def sample_loop():
    return Loop("ask empty:stop hand")


def sample_source():
    return Source("short", "prompt", "empty")
