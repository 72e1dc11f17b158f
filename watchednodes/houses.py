"""Houses: each keeps a row alike with the others, by letters, under an elected head."""

from watchednodes.errors import NoEntry, NoHouse, NoLetter, NoLooks, NoMembers, NotHead
from watchednodes.letters import is_letter
from watchednodes.paths import NOWHERE, is_word
from watchednodes.rows import Tale, behind, has_place, last_place, next_place, up_to
from watchednodes.states import is_entry

_MOST_MEMBERS = 7
_LOOKS = ("all", "epoch", "none")


def most_of(members):
    """How many of the members are most of them."""
    return len(members) // 2 + 1


def are_members(thing):
    """Whether anything is members: a tuple of 1 to 7 unlike words."""
    if not isinstance(thing, tuple) or not 1 <= len(thing) <= _MOST_MEMBERS:
        return False
    if not all([is_word(name) for name in thing]):
        return False
    return len(set(thing)) == len(thing)


class House:
    """One of several houses that keep a row alike."""

    def __init__(self, name, members, *, looks="all"):
        if not are_members(members):
            raise NoMembers()
        if not is_word(name) or name not in members:
            raise NoHouse(name)
        if not isinstance(looks, str) or looks not in _LOOKS:
            raise NoLooks()
        self._name = name
        self._members = members
        self._looks = looks
        self._promised = 0
        self._epoch = 0
        self._row = []
        self._tale = Tale()
        self.begin_anew()

    def begin_anew(self):
        """All is forgotten but what is kept through a stop: promised, epoch and row."""
        self._done = NOWHERE
        self._seek_by_none()

    def _seek_by_none(self):
        self._role = "seeks"
        self._head = None
        self._seeks_by = None
        # Each other one that has promised, with the last place that it told.
        self._promises = {}
        # Each other one that is synced, with the place up to which it took.
        self._took = {}
        # Each asker that was heard of, with the clock of that.
        self._heard = {}
        self._clock = 0

    def _follow(self, head):
        self._seek_by_none()
        self._role = "follows"
        self._head = head

    def twin(self):
        """A house with all that this one has."""
        other = House(self._name, self._members, looks=self._looks)
        other._promised = self._promised
        other._epoch = self._epoch
        other._row = list(self._row)
        other._done = self._done
        other._tale = self._tale.twin()
        other._role = self._role
        other._head = self._head
        other._seeks_by = self._seeks_by
        other._promises = dict(self._promises)
        other._took = dict(self._took)
        other._heard = dict(self._heard)
        other._clock = self._clock
        return other

    def called(self):
        """Its name."""
        return self._name

    def members(self):
        """All houses, this one too."""
        return self._members

    def role(self):
        """Whether it seeks, follows or leads."""
        return self._role

    def head(self):
        """The head that it knows of, or None."""
        return self._head

    def promised(self):
        """The greatest epoch that it promised."""
        return self._promised

    def epoch(self):
        """The epoch of the head whose row it has."""
        return self._epoch

    def done(self):
        """The greatest place up to which it knows its row done."""
        return self._done

    def clock(self):
        """How many beats it has led, 0 where it doesn't lead."""
        return self._clock

    def row(self):
        """Its row."""
        return list(self._row)

    def done_row(self):
        """Its row, as far as it is done."""
        return up_to(self._row, self._done)

    def synced(self):
        """Those that it, leading, holds for synced, itself too, sorted."""
        if self._role != "leads":
            return []
        return sorted([self._name] + list(self._took))

    def state(self):
        """The state of its row up to done."""
        return self._done_tale().state()

    def told(self):
        """What each entry of its row up to done tells: a list of tuples (place, answer, events)."""
        return self._done_tale().told()

    def is_settled(self):
        """Whether it leads, and most are synced."""
        return self._role == "leads" and len(self._took) + 1 >= most_of(self._members)

    def seek(self):
        """It seeks to lead by the next epoch: told are the letters that it says."""
        self._promised = self._promised + 1
        self._seek_by_none()
        self._seeks_by = self._promised
        last = last_place(self._row)
        letters = [("seek", self._name, other, self._promised, self._epoch, last) for other in self._others()]
        return letters + self._lead_by_most()

    def beat(self):
        """One beat of it: told are the letters that it says."""
        if self._role != "leads":
            return []
        self._clock = self._clock + 1
        letters = []
        for other in self._others():
            letters.extend(self._beat_to(other))
        return letters + self._end_unheard()

    def take(self, letter):
        """A letter to it: told are the letters that it says, or NoLetter."""
        if not is_letter(letter) or letter[2] != self._name or letter[1] not in self._members:
            raise NoLetter()
        word, other, _, epoch = letter[:4]
        if word == "seek":
            return self._take_seek(other, epoch, letter[4], letter[5])
        if word == "promise":
            return self._take_promise(other, epoch, letter[4])
        if word == "lead":
            return self._take_lead(other, epoch)
        if word in ("sync", "propose", "done"):
            return self._take_of_head(word, other, epoch, letter[4:])
        if self._role != "leads" or epoch != self._epoch:
            return []
        return self._take_as_head(word, other, letter[4:])

    def put(self, entry):
        """An entry is put by a settled head: told are the letters, or NoEntry, or NotHead."""
        if not is_entry(entry):
            raise NoEntry()
        if not self.is_settled():
            raise NotHead()
        prior = last_place(self._row)
        place = next_place(self._row, self._epoch)
        self._row.append((place, entry))
        letters = [self._propose(other, prior, place, entry) for other in self._synced_others()]
        return letters + self._look()

    def put_once(self, entry):
        """An ask is put by a settled head, but not twice: told are the letters, or NoEntry."""
        if not is_entry(entry) or entry[0] != "ask":
            raise NoEntry()
        if not self.is_settled():
            return []
        self.hear_of(entry[1])
        if self._was_done(entry) or self._is_under_way(entry):
            return []
        return self.put(entry)

    def hear_of(self, asker):
        """A settled head hears of an asker."""
        if self.is_settled():
            self._heard[asker] = self._clock

    def _others(self):
        return [name for name in self._members if name != self._name]

    def _synced_others(self):
        return [name for name in self._others() if name in self._took]

    def _done_tale(self):
        self._tale.go_on(self.done_row())
        return self._tale

    def _was_done(self, ask):
        """Whether the asker of an ask has its stamp, or a greater one, in the state."""
        sessions = self.state()[1]
        _, asker, stamp, _ = ask
        return asker in sessions and sessions[asker][1] >= stamp

    def _is_under_way(self, entry):
        """Whether a like entry stands behind done."""
        return entry in [other for _, other in behind(self._row, self._done)]

    def _promise(self, other):
        return [("promise", self._name, other, self._promised, last_place(self._row))]

    def _take_seek(self, other, epoch, other_epoch, other_last):
        if epoch <= self._promised:
            return []
        self._promised = epoch
        self._seek_by_none()
        return self._promise(other) if self._looks_at(other_epoch, other_last) else []

    def _looks_at(self, other_epoch, other_last):
        """Whether by its looks one with that epoch and last place may lead it."""
        if self._looks == "none":
            return True
        if self._looks == "epoch":
            return other_epoch >= self._epoch
        return (other_epoch, other_last) >= (self._epoch, last_place(self._row))

    def _take_lead(self, other, epoch):
        if epoch < self._promised or (epoch == self._promised and self._role != "seeks"):
            return []
        self._promised = epoch
        self._seek_by_none()
        return self._promise(other)

    def _take_promise(self, other, epoch, last):
        if self._role == "leads" and epoch == self._epoch:
            self._promises[other] = last
            # It may have begun anew, so what it took ahead counts no more.
            self._took.pop(other, None)
            return [self._bring_up(other)]
        if epoch != self._seeks_by:
            return []
        self._promises[other] = last
        return self._lead_by_most()

    def _lead_by_most(self):
        """It leads where most have promised, itself too."""
        if len(self._promises) + 1 < most_of(self._members):
            return []
        self._role = "leads"
        self._head = self._name
        self._seeks_by = None
        self._epoch = self._promised
        letters = [self._bring_up(other) for other in self._others() if other in self._promises]
        return letters + self._look()

    def _bring_up(self, other):
        """The letter by which one that has promised gets what it lacks."""
        last = self._promises[other]
        if last == NOWHERE or has_place(self._row, last):
            return self._sync(other, "more", last)
        base = last_place(up_to(self._row, last))
        return self._sync(other, "all" if base == NOWHERE else "cut", base)

    def _sync(self, other, way, base):
        things = tuple(behind(self._row, base))
        return ("sync", self._name, other, self._epoch, way, base, things, self._done)

    def _take_of_head(self, word, other, epoch, rest):
        """A letter that a head says to those that promised it."""
        if epoch != self._promised or self._role == "leads":
            return []
        if word == "sync":
            return self._take_sync(other, epoch, rest)
        if epoch != self._epoch:
            return []
        self._follow(other)
        if word == "propose":
            return self._take_propose(other, rest)
        self._go_on(rest[0])
        return []

    def _take_sync(self, other, epoch, rest):
        _, base, things, place = rest
        if epoch > self._epoch:
            if base != NOWHERE and not has_place(self._row, base):
                return [("lack", self._name, other, epoch)]
            self._row = up_to(self._row, base) + list(things)
            self._epoch = epoch
            self._go_on(place)
        self._follow(other)
        return [("synced", self._name, other, epoch, last_place(self._row))]

    def _take_propose(self, other, rest):
        prior, place, entry = rest
        if last_place(self._row) == prior:
            self._row.append((place, entry))
        if not has_place(self._row, place):
            return []
        return [("took", self._name, other, self._epoch, last_place(self._row))]

    def _go_on(self, place):
        """What is done up to a place is done here, as far as its row goes."""
        self._done = max(self._done, min(place, last_place(self._row)))

    def _take_as_head(self, word, other, rest):
        """A letter to a head of its epoch."""
        if word == "lack":
            return [self._sync(other, "all", NOWHERE)]
        if word == "synced" or (word == "took" and other in self._took):
            self._took[other] = max(rest[0], self._took.get(other, NOWHERE))
            return self._look()
        if word == "forward":
            return self.put_once(rest[0])
        if word == "touch":
            self.hear_of(rest[0])
        return []

    def _propose(self, other, prior, place, entry):
        return ("propose", self._name, other, self._epoch, prior, place, entry)

    def _done_letter(self, other):
        return ("done", self._name, other, self._epoch, self._done)

    def _look(self):
        """A settled head looks what most took, and says what is done by that."""
        if not self.is_settled():
            return []
        took = sorted([last_place(self._row)] + list(self._took.values()), reverse=True)
        place = last_place(up_to(self._row, took[most_of(self._members) - 1]))
        if place <= self._done:
            return []
        self._done = place
        return [self._done_letter(other) for other in self._synced_others()]

    def _beat_to(self, other):
        if other not in self._promises:
            return [("lead", self._name, other, self._epoch)]
        if other not in self._took:
            return [self._bring_up(other)]
        letters = []
        prior = NOWHERE
        for place, entry in self._row:
            if place > self._took[other]:
                letters.append(self._propose(other, prior, place, entry))
            prior = place
        return letters + [self._done_letter(other)]

    def _end_unheard(self):
        """A settled head ends each session of whose asker it heard nothing for too long."""
        if not self.is_settled():
            return []
        sessions = self.state()[1]
        letters = []
        for asker in sorted([word for word in sessions if sessions[word][0] is not None]):
            # One that was never heard of may have asked another head just ahead of this one.
            self._heard.setdefault(asker, self._clock)
            is_late = self._clock - self._heard[asker] > sessions[asker][0]
            if is_late and not self._is_under_way(("end", asker)):
                letters.extend(self.put(("end", asker)))
        return letters
