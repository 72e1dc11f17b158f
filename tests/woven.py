"""Houses for the tests, brought by letters to where a test begins, and what all they tell."""

from watchednodes.houses import House, most_of
from watchednodes.letters import is_letter
from watchednodes.paths import NOWHERE
from watchednodes.readers import Reader

ONE = ("ann",)
THREE = ("ann", "bea", "cyd")
FIVE = ("ann", "bea", "cyd", "dot", "eve")


def ask(stamp, asker="bob", deed=("bring",)):
    """An ask as an entry."""
    return ("ask", asker, stamp, deed)


def row_at(*places):
    """A row with things at these places, bob's asks."""
    return [(place, ask(10 * place[0] + place[1])) for place in places]


def numbered(epoch, many):
    """The first places of an epoch, so many."""
    return tuple([(epoch, k + 1) for k in range(many)])


def house_of(one):
    """The house of a reader, or a house itself."""
    return one.house() if isinstance(one, Reader) else one


def following(*, name="bea", members=THREE, looks="all", row=(), epoch=1, done=NOWHERE, head="ann", made=House):
    """A house, or a reader, that follows a head, with this row, epoch and done."""
    house = made(name, members, looks=looks)
    house.take(("lead", head, name, epoch))
    house.take(("sync", head, name, epoch, "all", NOWHERE, tuple(row), done))
    return house


def leading(*, name="ann", members=THREE, row=(), epoch=2, promises=None, synced=None, made=House):
    """A house, or a reader, that leads by an epoch from 2 on, with this row.

    promises are the others' promises with what each told as its last, synced those that are
    synced, with the place up to which each took.
    """
    others = [other for other in members if other != name]
    house = made(name, members)
    if others:
        house = following(name=name, members=members, row=row, epoch=epoch - 1, head=others[0], made=made)
    while house_of(house).promised() < epoch:
        house.seek()
    synced = {} if synced is None else synced
    if promises is None:
        promises = dict(synced)
        for other in others:
            if len(promises) + 1 < most_of(members):
                promises.setdefault(other, NOWHERE)
    for other, last in promises.items():
        house.take(("promise", other, name, epoch, last))
    for other, last in synced.items():
        house.take(("synced", other, name, epoch, last))
    return house


def told(house):
    """All that a house tells of itself."""
    return {
        "called": house.called(), "members": house.members(), "role": house.role(), "head": house.head(),
        "promised": house.promised(), "epoch": house.epoch(), "done": house.done(), "clock": house.clock(),
        "row": house.row(), "done_row": house.done_row(), "synced": house.synced(), "state": house.state(),
        "is_settled": house.is_settled()}


def behaved(house):
    """All that a house tells, and what its twins say when they go on: what it keeps shows there."""
    beats, other = [], house.twin()
    for _ in range(4):
        beats.append(other.beat())
    beats.append(told(other))
    promised = []
    for name in house.members():
        if name != house.called():
            other = house.twin()
            promised.append(other.take(("promise", name, house.called(), house.promised(), (9, 9))))
            promised.append(told(other))
    for name in house.members():
        if name != house.called():
            other = house.twin()
            promised.append(other.take(("took", name, house.called(), house.epoch(), (9, 9))))
            promised.append(told(other))
    return told(house), beats, promised, house.twin().seek()


class Post:
    """Houses that are woven, all letters that they said, and checks that hold throughout."""

    def __init__(self, test, members):
        self.test = test
        self.houses = {name: House(name, members) for name in members}
        self.members = members
        self.letters = []
        self.heads = {}
        self.longest = []
        self.done = {name: NOWHERE for name in members}

    def say(self, name, letters):
        """What a house said is kept; each is a letter of its own to another one."""
        for letter in letters:
            self.test.assertTrue(is_letter(letter), letter)
            self.test.assertEqual(letter[1], name)
            self.test.assertIn(letter[2], self.members)
        self.letters.extend(letters)
        self.check()
        return letters

    def seek(self, name):
        return self.say(name, self.houses[name].seek())

    def beat(self, name):
        return self.say(name, self.houses[name].beat())

    def put(self, name, entry):
        return self.say(name, self.houses[name].put(entry))

    def put_once(self, name, entry):
        return self.say(name, self.houses[name].put_once(entry))

    def give(self, letter):
        """A letter is given to its house."""
        return self.say(letter[2], self.houses[letter[2]].take(letter))

    def begin_anew(self, name):
        self.test.assertIsNone(self.houses[name].begin_anew())
        self.done[name] = NOWHERE
        self.check()

    def give_all(self, letters, *, among=None):
        """Letters are given, and those said at these, and so on, among houses that are there."""
        among = self.members if among is None else among
        while letters:
            said = []
            for letter in letters:
                if letter[1] in among and letter[2] in among:
                    said.extend(self.give(letter))
            letters = said

    def elect(self, name, *, among=None):
        """A house seeks till it leads, and those among whom it is are brought up."""
        for _ in range(60):
            self.give_all(self.seek(name), among=among)
            if self.houses[name].is_settled():
                break
        self.beats(name, among=among)

    def beats(self, name, *, among=None):
        for _ in range(2):
            self.give_all(self.beat(name), among=among)

    def check(self):
        """Of each epoch one head; one row whose beginnings are done; none goes back."""
        for name, house in self.houses.items():
            done_row = house.done_row()
            if house.role() == "leads":
                self.test.assertEqual(self.heads.setdefault(house.epoch(), name), name)
                if house.epoch() == max(self.heads):
                    self.test.assertEqual(house.row()[:len(self.longest)], self.longest)
            short, long = sorted([done_row, self.longest], key=len)
            self.test.assertEqual(long[:len(short)], short)
            self.longest = long
            self.test.assertGreaterEqual(house.done(), self.done[name])
            self.done[name] = house.done()
