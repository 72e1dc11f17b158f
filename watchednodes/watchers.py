"""Watchers, tuples (asker, kind, path), each laid once and told once."""

from watchednodes.nodes import kids_of, node_at
from watchednodes.paths import is_path, is_word

KINDS = ("text", "there", "kids")

# The words of the events that meet a watcher of each kind.
_MET_BY = {
    "text": ("text", "gone"),
    "there": ("made", "text", "gone"),
    "kids": ("kids", "gone"),
}


def is_watcher(thing):
    """Whether anything is a watcher."""
    if not isinstance(thing, tuple) or len(thing) != 3:
        return False
    asker, kind, path = thing
    return is_word(asker) and isinstance(kind, str) and kind in KINDS and is_path(path)


def is_met(kind, path, event):
    """Whether a watcher of this kind and path is met by an event."""
    word, changed = event
    return path == changed and word in _MET_BY[kind]


def value_of(nodes, kind, path):
    """What a read of this kind and path tells."""
    node = node_at(nodes, path)
    if kind == "there":
        return node is not None
    if node is None:
        return None
    return node[:2] if kind == "text" else tuple(kids_of(nodes, path))


def is_laid_by(kind, value):
    """Whether a read that tells this value, and is to lay a watcher, lays one."""
    return kind == "there" or value is not None


class Watchers:
    """The watchers that are kept, each once."""

    def __init__(self):
        self._kept = {}

    def lay(self, asker, kind, path):
        """A watcher is kept from now on."""
        self._kept[(asker, kind, path)] = True

    def let_go(self, asker):
        """An asker's watchers are kept no more."""
        self._kept = {watcher: True for watcher in self._kept if watcher[0] != asker}

    def meet(self, place, events):
        """The letters to those that events at a place meet; these are kept no more."""
        letters = []
        for event in events:
            met = [watcher for watcher in self._kept if is_met(watcher[1], watcher[2], event)]
            for asker, kind, path in sorted(met):
                letters.append(("event", asker, kind, path, event[0], place))
                del self._kept[(asker, kind, path)]
        return letters

    def anew(self, asker, watchers, told):
        """An asker's watchers, each with a place, in the stead of its elder ones.

        Told are the letters to those that were met behind their places; the others are kept.
        """
        self.let_go(asker)
        # Of like ones the place of the last one counts.
        laid = {(kind, path): place for kind, path, place in watchers}
        letters = []
        for place, _, events in told:
            for event in events:
                met = [like for like in laid if laid[like] < place and is_met(like[0], like[1], event)]
                for kind, path in sorted(met):
                    letters.append(("event", asker, kind, path, event[0], place))
                    del laid[(kind, path)]
        for kind, path in laid:
            self.lay(asker, kind, path)
        return letters

    def kept(self):
        """What is kept, sorted."""
        return sorted(list(self._kept))

    def twin(self):
        """Watchers of their own, which keep what these keep."""
        other = Watchers()
        for asker, kind, path in self._kept:
            other.lay(asker, kind, path)
        return other

    def __len__(self):
        return len(self._kept)

    def __eq__(self, other):
        return isinstance(other, Watchers) and self._kept == other._kept
