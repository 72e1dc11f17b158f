"""Askers: each asks, reads and watches at one house at a time."""

from watchednodes.errors import Busy, NoAsker, NoDeed
from watchednodes.paths import NOWHERE, is_place, is_whole, is_word
from watchednodes.states import is_deed
from watchednodes.watchers import is_laid_by, is_met, is_watcher


def _copied(thing):
    """A thing with new lists and dicts in the stead of those within it."""
    if isinstance(thing, tuple):
        return tuple([_copied(part) for part in thing])
    if isinstance(thing, list):
        return [_copied(part) for part in thing]
    if isinstance(thing, dict):
        return {key: _copied(thing[key]) for key in thing}
    return thing


def _is_told_answer(thing):
    """Whether anything is a tuple that begins as an answer does; its values may be any."""
    if not isinstance(thing, tuple) or len(thing) == 0:
        return False
    return isinstance(thing[0], str) and thing[0] in ("ok", "no")


def _is_event_letter(letter):
    """Whether one to an asker tells of an event that meets a watcher."""
    if len(letter) != 6 or not is_watcher(letter[1:4]) or not isinstance(letter[4], str):
        return False
    return is_met(letter[2], letter[3], (letter[4], letter[3]))


class Asker:
    """One who asks, reads and watches."""

    def __init__(self, word):
        if not is_word(word):
            raise NoAsker(word)
        self._word = word
        self._at = None
        self._stamp = 0
        # The deed of the ask under way.
        self._deed = None
        self._number = 0
        # Kind, path and watch of the last read, as long as it wasn't told.
        self._reading = None
        self._seen = NOWHERE
        # Each watcher's kind and path, with the place at which it was laid.
        self._laid = {}
        self._heard = []

    def twin(self):
        """An asker with all that this one has."""
        other = Asker(self._word)
        other._at = self._at
        other._stamp = self._stamp
        other._deed = self._deed
        other._number = self._number
        other._reading = self._reading
        other._seen = self._seen
        other._laid = {like: self._laid[like] for like in self._laid}
        other._heard = _copied(self._heard)
        return other

    def called(self):
        """Its word."""
        return self._word

    def at(self):
        """The house at which it is, None at first."""
        return self._at

    def seen(self):
        """The greatest place that it saw."""
        return self._seen

    def is_busy(self):
        """Whether an ask of it has no answer as yet."""
        return self._deed is not None

    def watchers(self):
        """Its watchers with the places at which they were laid, sorted."""
        return sorted([(kind, path, place) for (kind, path), place in self._laid.items()])

    def heard(self):
        """All answers, reads and events in the order in which they were heard."""
        return _copied(self._heard)

    def answers(self):
        """The answers: tuples (stamp, deed, answer, place)."""
        return self._heard_of("answer")

    def reads(self):
        """What it read: tuples (number, kind, path, value, place)."""
        return self._heard_of("told")

    def events(self):
        """The events: tuples (kind, path, word, place)."""
        return self._heard_of("event")

    def _heard_of(self, word):
        return [thing[1:] for thing in self.heard() if thing[0] == word]

    def move(self, house):
        """It moves to a house: told is its again letter."""
        self._at = house
        self._reading = None
        return ("again", self._word, tuple(self.watchers()), self._seen)

    def ask(self, deed):
        """It asks a deed: told is the letter, or NoDeed, or Busy."""
        if not is_deed(deed):
            raise NoDeed()
        if self.is_busy():
            raise Busy()
        self._stamp = self._stamp + 1
        self._deed = deed
        return self.again()

    def again(self):
        """It asks again what is under way: told is the letter, None where there is none."""
        if self._deed is None:
            return None
        return ("ask", self._word, self._stamp, self._deed)

    def read(self, kind, path, *, watch=False):
        """It reads: told is the letter."""
        self._number = self._number + 1
        self._reading = (kind, path, watch)
        return ("read", self._word, self._number, kind, path, watch, self._seen)

    def touch(self):
        """It lets its head hear of it: told is the letter."""
        return ("touch", self._word)

    def hear(self, letter):
        """It hears anything: told is whether it was a letter that it took."""
        if not isinstance(letter, tuple) or len(letter) < 2 or not is_word(letter[1]):
            return False
        word = letter[0]
        if not isinstance(word, str) or letter[1] != self._word:
            return False
        if word == "late":
            return len(letter) == 2
        if not is_place(letter[-1]):
            return False
        if word == "answer":
            return len(letter) == 5 and self._hear_answer(letter[2], letter[3], letter[4])
        if word == "told":
            return len(letter) == 5 and self._hear_told(letter[2], letter[3], letter[4])
        return word == "event" and _is_event_letter(letter) and self._hear_event(letter[2:])

    def _keep(self, thing):
        """What it took is kept, and its place is seen."""
        self._heard.append(_copied(thing))
        self._seen = max(self._seen, thing[-1])
        return True

    def _hear_answer(self, stamp, answer, place):
        if self._deed is None or not is_whole(stamp, 1) or stamp != self._stamp:
            return False
        if not _is_told_answer(answer):
            return False
        deed = self._deed
        self._deed = None
        return self._keep(("answer", stamp, deed, answer, place))

    def _hear_told(self, number, value, place):
        if self._reading is None or not is_whole(number, 1) or number != self._number:
            return False
        kind, path, watch = self._reading
        self._reading = None
        if watch and is_laid_by(kind, value):
            self._laid[(kind, path)] = place
        return self._keep(("told", number, kind, path, value, place))

    def _hear_event(self, event):
        kind, path, _, place = event
        if (kind, path) not in self._laid or place <= self._laid[(kind, path)]:
            return False
        del self._laid[(kind, path)]
        return self._keep(("event",) + event)
