"""Readers: houses with watchers, and with askers that they have met."""

from watchednodes.errors import NoLetter
from watchednodes.houses import House
from watchednodes.paths import NOWHERE, is_place, is_whole, is_word
from watchednodes.rows import behind
from watchednodes.states import is_entry
from watchednodes.watchers import Watchers, is_laid_by, is_watcher, value_of


def _is_laid(asker, thing):
    """Whether anything is a watcher of an asker's, with a place in the stead of the asker."""
    if not isinstance(thing, tuple) or len(thing) != 3:
        return False
    return is_watcher((asker, thing[0], thing[1])) and is_place(thing[2])


def _is_again(letter):
    if len(letter) != 4 or not isinstance(letter[2], tuple) or not is_place(letter[3]):
        return False
    return all([_is_laid(letter[1], thing) for thing in letter[2]])


def _is_read(letter):
    if len(letter) != 7 or not is_whole(letter[2], 1) or not is_watcher((letter[1], letter[3], letter[4])):
        return False
    return isinstance(letter[5], bool) and is_place(letter[6])


def _is_askers_letter(thing):
    """Whether anything is a letter of an asker's by its form."""
    if not isinstance(thing, tuple) or len(thing) < 2:
        return False
    word, asker = thing[:2]
    if not isinstance(word, str) or not is_word(asker):
        return False
    if word == "again":
        return _is_again(thing)
    if word == "read":
        return _is_read(thing)
    if word == "touch":
        return len(thing) == 2
    # An ask is written alike in a letter and in a row.
    return word == "ask" and is_entry(thing)


class Reader:
    """One of several houses, which askers ask, read and watch."""

    def __init__(self, name, members, *, looks="all"):
        self._house = House(name, members, looks=looks)
        self._forget()

    def _forget(self):
        self._watchers = Watchers()
        self._met = {}
        # Each asker that waits, with the stamp of its ask.
        self._waiting = {}

    def house(self):
        """A twin of the house."""
        return self._house.twin()

    def begin_anew(self):
        """The house begins anew, and what it knew of askers is forgotten."""
        self._house.begin_anew()
        self._forget()

    def twin(self):
        """A reader with all that this one has."""
        other = Reader(self._house.called(), self._house.members())
        other._house = self._house.twin()
        other._watchers = self._watchers.twin()
        other._met = dict(self._met)
        other._waiting = dict(self._waiting)
        return other

    def watchers(self):
        """The watchers that it keeps, sorted."""
        return self._watchers.kept()

    def waiting(self):
        """The askers that wait, each with the stamp of its ask, sorted."""
        return sorted(list(self._waiting.items()))

    def met(self):
        """The askers that it has met, sorted."""
        return sorted(list(self._met))

    def state(self):
        """The state of its row up to done."""
        return self._house.state()

    def done(self):
        """The greatest place up to which it knows its row done."""
        return self._house.done()

    def seek(self):
        """The house seeks to lead: told are the letters that it says."""
        ahead = self.done()
        letters = self._house.seek()
        return letters + self._tell_behind(ahead)

    def beat(self):
        """One beat of the house: told are the letters that it says."""
        ahead = self.done()
        letters = self._house.beat()
        return letters + self._tell_behind(ahead)

    def take(self, letter):
        """A letter of a house: told are the letters that it says, or NoLetter."""
        ahead = self.done()
        letters = self._house.take(letter)
        return letters + self._tell_behind(ahead)

    def hear(self, letter):
        """A letter of an asker: told are the letters that it says, or NoLetter."""
        if not _is_askers_letter(letter):
            raise NoLetter()
        word, asker = letter[:2]
        if word == "again":
            return self._hear_again(asker, letter[2], letter[3])
        if word == "touch":
            return self._hear_touch(asker)
        if asker not in self._met:
            return [("late", asker)]
        return self._hear_ask(letter) if word == "ask" else self._hear_read(letter)

    def _tell_behind(self, ahead):
        """The letters to askers where done went on from the place ahead: events, and answers."""
        if self.done() <= ahead:
            return []
        told = {place: (answer, events) for place, answer, events in self._house.told()}
        letters = []
        for place, entry in behind(self._house.done_row(), ahead):
            answer, events = told[place]
            letters.extend(self._watchers.meet(place, events))
            if entry[0] == "ask" and self._waiting.get(entry[1]) == entry[2]:
                letters.append(self._answer(entry[1], entry[2], answer, place))
        return letters

    def _answer(self, asker, stamp, answer, place):
        """The answer to an ask: who waits for it waits no more."""
        if self._waiting.get(asker) == stamp:
            del self._waiting[asker]
        return ("answer", asker, stamp, answer, place)

    def _hear_again(self, asker, watchers, seen):
        self._waiting.pop(asker, None)
        if self.done() < seen:
            self._met.pop(asker, None)
            self._watchers.let_go(asker)
            return [("late", asker)]
        self._met[asker] = True
        return self._watchers.anew(asker, watchers, self._house.told())

    def _hear_ask(self, ask):
        _, asker, stamp, _ = ask
        _, last_stamp, answer, place = self.state()[1].get(asker, (None, 0, None, NOWHERE))
        if last_stamp == stamp:
            return [self._answer(asker, stamp, answer, place)]
        self._waiting[asker] = stamp
        ahead = self.done()
        letters = self._house.put_once(ask)
        if self._house.role() == "follows":
            letters.append(("forward", self._house.called(), self._house.head(), self._house.epoch(), ask))
        return letters + self._tell_behind(ahead)

    def _hear_read(self, read):
        _, asker, number, kind, path, watch, seen = read
        if self.done() < seen:
            return [("late", asker)]
        value = value_of(self.state()[0], kind, path)
        if watch and is_laid_by(kind, value):
            self._watchers.lay(asker, kind, path)
        return [("told", asker, number, value, self.done())]

    def _hear_touch(self, asker):
        if self._house.role() == "follows":
            return [("touch", self._house.called(), self._house.head(), self._house.epoch(), asker)]
        self._house.hear_of(asker)
        return []
