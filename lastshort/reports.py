"""Tables of faults and of pieces, as texts."""

from lastshort.chains import check_chain
from lastshort.checks import check_items
from lastshort.judging import fault
from lastshort.marks import NAMES


def reply_text(reply):
    count, told = reply
    return f"{count}!" if told else str(count)


def fault_text(found):
    if found is None:
        return "yes"
    items, size, replies = found
    return " ".join([str(items), str(size)] + [reply_text(reply) for reply in replies])


def fault_table(loop, source):
    """Return a text with one line for each property: `yes`, or its least fault."""
    return "\n".join([f"{name}: {fault_text(fault(loop, source, name))}" for name in NAMES])


def piece_table(chain, items):
    """Return a text with one line for each piece: its first and its last item."""
    check_chain(chain)
    check_items(items)
    lines = []
    first = 0
    for size in chain.row_of(items).sizes():
        lines.append(f"{first}-{first + size - 1}")
        first += size
    return "\n".join(lines)
