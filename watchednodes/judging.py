"""Judging what an asker heard by a row, and several rows by one another."""

from watchednodes.paths import NOWHERE, is_place, is_whole
from watchednodes.rows import is_beginning
from watchednodes.states import done, first_state
from watchednodes.watchers import is_laid_by, is_met, value_of


def _is_like(one, other):
    """Whether two things are alike, where a truth is no number."""
    if isinstance(one, tuple) and isinstance(other, tuple):
        return len(one) == len(other) and all([_is_like(a, b) for a, b in zip(one, other)])
    return isinstance(one, bool) == isinstance(other, bool) and one == other


class Judge:
    """A row, and what must hold of the next thing that an asker hears."""

    def __init__(self, row, asker, laid):
        # The asker's asks by their stamps: (deed, answer, place) of the one first met.
        self._asks = {}
        self._changes = []
        self._nodes = {NOWHERE: first_state()[0]}
        state = first_state()
        for place, entry in row:
            state, answer, events = done(state, entry, place=place)
            self._nodes[place] = state[0]
            self._changes.extend([(place, event) for event in events])
            if entry[:2] == ("ask", asker):
                self._asks.setdefault(entry[2], (entry[3], answer, place))
        self._laid = laid
        # The watchers that were laid and not told, with the places of their reads.
        self._watched = {}
        self._last_stamp = 0
        self._last_answered = NOWHERE
        # The place of the last read or event.
        self._last_seen = NOWHERE

    def amiss(self, thing):
        """What is amiss of the next thing heard, a word, or None."""
        if thing[0] == "answer":
            return self._amiss_answer(thing[1:])
        if thing[0] == "told":
            return self._amiss_told(thing[1:])
        return self._amiss_event(thing[1:])

    def _amiss_answer(self, thing):
        stamp, deed, answer, place = thing
        if not is_whole(stamp, 1) or stamp not in self._asks:
            return "answer"
        if not _is_like((deed, answer, place), self._asks[stamp]):
            return "answer"
        if stamp <= self._last_stamp or place <= self._last_answered:
            return "answer"
        self._last_stamp = stamp
        self._last_answered = place
        return None

    def _amiss_told(self, thing):
        number, kind, path, value, place = thing
        if not is_place(place) or place not in self._nodes:
            return "told"
        if not _is_like(value, value_of(self._nodes[place], kind, path)):
            return "told"
        if place < self._last_seen or place < self._last_answered:
            return "told"
        self._last_seen = place
        if self._is_one_met(place):
            return "missed"
        if number in self._laid and is_laid_by(kind, value):
            self._watched[(kind, path)] = place
        return None

    def _amiss_event(self, thing):
        kind, path, word, place = thing
        if (kind, path) not in self._watched:
            return "event"
        if not _is_like((word, place), self._first_met(kind, path)) or place < self._last_seen:
            return "event"
        self._last_seen = place
        del self._watched[(kind, path)]
        return None

    def _first_met(self, kind, path):
        """The first event that meets a watcher that was laid: (word, place), or None."""
        for place, event in self._changes:
            if place > self._watched[(kind, path)] and is_met(kind, path, event):
                return event[0], place
        return None

    def _is_one_met(self, place):
        """Whether an event up to a place meets a watcher that was laid and not told."""
        met = [self._first_met(kind, path) for kind, path in self._watched]
        return any([event is not None and event[1] <= place for event in met])


def first_amiss(row, asker, heard, laid):
    """What is first amiss in what an asker heard: a word and its number, or None."""
    judge = Judge(row, asker, laid)
    for k, thing in enumerate(heard):
        word = judge.amiss(thing)
        if word is not None:
            return word, k
    return None


def are_beginnings(rows):
    """Whether of any two rows one is a beginning of the other."""
    return all([is_beginning(one, other) or is_beginning(other, one) for one in rows for other in rows])
