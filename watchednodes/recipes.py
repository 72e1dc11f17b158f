"""Recipes over a node's children: locks, queues, heads of groups, barriers; and fences."""

from watchednodes.errors import Late
from watchednodes.nodes import kids_of, node_at
from watchednodes.paths import path_below


def number_of(part):
    """The figures of a part as a number, None where it has none."""
    figures = part.partition("-")[2]
    return int(figures) if figures else None


def _in_order(kids):
    """The children with figures by their numbers, like ones as texts are sorted."""
    numbered = [(number_of(part), part) for part in kids if number_of(part) is not None]
    return [part for _, part in sorted(numbered)]


def lock_of(kids, part):
    """Whether one's own part holds a lock, or for which one it waits; None where it isn't there."""
    order = _in_order(kids)
    if part not in order:
        return None
    ahead = order[:order.index(part)]
    return ("waits", ahead[-1]) if ahead else ("holds", number_of(part))


def first_of(kids):
    """The first part of a queue, or None."""
    order = _in_order(kids)
    return order[0] if order else None


def head_of_group(nodes, path):
    """The part and text of a node's first child with figures, or None."""
    kids = kids_of(nodes, path)
    part = None if kids is None else first_of(kids)
    if part is None:
        return None
    return part, node_at(nodes, path_below(path, part))[0]


def barrier_of(kids, *, many):
    """Whether a barrier of so many is open, else how many lack."""
    lack = many - len(kids)
    return ("shut", lack) if lack > 0 else ("open",)


class Fence:
    """What hears no write with a lesser number behind one with a greater."""

    def __init__(self):
        # The numbers rise, so the last write has the greatest.
        self._writes = []

    def write(self, number, text):
        """A write with the number of a lock's holder, or Late."""
        if self._writes and number < self._writes[-1][0]:
            raise Late(self._writes[-1][0])
        self._writes.append((number, text))

    def text(self):
        """The text of the last write that was heard, None ahead of any."""
        return self._writes[-1][1] if self._writes else None

    def greatest(self):
        """The greatest number that was heard, None ahead of any."""
        return self._writes[-1][0] if self._writes else None

    def __len__(self):
        return len(self._writes)
