"""Rows of pieces made cutter by cutter, written from the document alone; chains are texts here."""

WORDS = ("cut", "fill", "tail")


def cut_up(size, width):
    return [min(width, size - start) for start in range(0, size, width)]


def plain_row(text, items):
    """The sizes of the pieces."""
    row = [items] if items else []
    for cutter in text.split(", "):
        word, width = cutter.split(" ")
        width = int(width)
        if word == "cut":
            row = [part for size in row for part in cut_up(size, width)]
        elif word == "fill":
            row = cut_up(sum(row), width)
        elif len(row) >= 2 and row[-1] < width:
            row[-2:] = [row[-2] + row[-1]]
    return row


def random_chain(random, most):
    return ", ".join(f"{random.choice(WORDS)} {random.randint(1, 12)}" for _ in range(random.randint(1, most)))
