"""Rows of pieces that are too long to be written down, and what cutters make of them."""


class Row:
    """A row of pieces, told by their sizes: those of `unit`, `times` times, and then those of `last`."""

    def __init__(self, unit, times, last):
        self.unit = unit
        self.times = times
        self.last = last

    def many(self):
        return self.times * len(self.unit) + len(self.last)

    def sizes(self):
        """Return the sizes of all pieces; there should not be too many."""
        return self.unit * self.times + self.last

    def piece_at(self, place):
        """Return the first item of the piece with this place, and how many it has."""
        inside = self.times * len(self.unit)
        if place < inside:
            turn, place = divmod(place, len(self.unit))
            return turn * sum(self.unit) + sum(self.unit[:place]), self.unit[place]
        place -= inside
        return self.times * sum(self.unit) + sum(self.last[:place]), self.last[place]

    def place_with(self, item):
        """Return the place of the piece that contains this item."""
        inside = self.times * sum(self.unit)
        if item < inside:
            turn, item = divmod(item, sum(self.unit))
            return turn * len(self.unit) + place_among(self.unit, item)
        return self.times * len(self.unit) + place_among(self.last, item - inside)


def place_among(sizes, item):
    place = 0
    while item >= sizes[place]:
        item -= sizes[place]
        place += 1
    return place


def cut_sizes(sizes, width):
    cut = []
    for size in sizes:
        cut += [width] * (size // width)
        if size % width:
            cut.append(size % width)
    return tuple(cut)


def whole_row(items):
    """Return the row that a chain begins with."""
    return Row((), 0, (items,) if items else ())


def fill_row(row, width):
    items = row.times * sum(row.unit) + sum(row.last)
    left = items % width
    return Row((width,), items // width, (left,) if left else ())


def cut_row(row, width):
    # Only a piece that stands alone can be too long for its parts to be written down one by one.
    if row.many() == 1:
        return fill_row(row, width)
    return Row(cut_sizes(row.unit, width), row.times, cut_sizes(row.last, width))


def tail_row(row, width):
    times, last = row.times, row.last
    while times > 0 and len(last) < 2:
        times -= 1
        last = row.unit + last
    if len(last) >= 2 and last[-1] < width:
        last = last[:-2] + (last[-2] + last[-1],)
    return Row(row.unit, times, last)


CUTTERS = {
    "cut": cut_row,
    "fill": fill_row,
    "tail": tail_row,
}
