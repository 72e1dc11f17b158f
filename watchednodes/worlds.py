"""Worlds: houses and askers, and the letters between them, woven deed by deed."""

from watchednodes.askers import Asker
from watchednodes.errors import NoAsker, NoHouse, NoMembers, NoNumber, NoWeaving, Stopped
from watchednodes.houses import are_members
from watchednodes.paths import is_path, is_whole, is_word
from watchednodes.readers import Reader
from watchednodes.watchers import KINDS

# How many things a deed of each word has, the word too.
_MANY = {
    "seek": 2, "beat": 2, "stop": 2, "begin": 2, "give": 2, "move": 3,
    "ask": 3, "again": 2, "read": 5, "touch": 2, "hear": 2,
}
_TO_ASKERS = ("event", "answer", "told", "late")


def _is_woven(thing):
    """Whether anything is a deed of a world by its form."""
    if not isinstance(thing, tuple) or len(thing) == 0:
        return False
    word = thing[0]
    if not isinstance(word, str) or word not in _MANY or len(thing) != _MANY[word]:
        return False
    if word != "read":
        return True
    _, _, kind, path, watch = thing
    return isinstance(kind, str) and kind in KINDS and is_path(path) and isinstance(watch, bool)


class World:
    """Houses, askers, and a post for the letters between them."""

    def __init__(self, members, *, looks="all"):
        if not are_members(members):
            raise NoMembers()
        self._members = members
        self._readers = {name: Reader(name, members, looks=looks) for name in members}
        self._stopped = {}
        self._askers = {}
        # For each asker the letters to it that it hasn't heard.
        self._unheard = {}
        # For each asker the numbers of its reads that were to lay a watcher.
        self._laid = {}
        # All letters between houses as they were first said, and the number of each.
        self._letters = []
        self._numbers = {}
        # The numbers of those said since the last round of a calm began, in order.
        self._fresh = {}

    def __len__(self):
        return len(self._letters)

    def twin(self):
        """A world with all that this one has."""
        other = World(self._members)
        other._readers = {name: self._readers[name].twin() for name in self._members}
        other._stopped = dict(self._stopped)
        other._askers = {word: self._askers[word].twin() for word in self._askers}
        other._unheard = {word: list(self._unheard[word]) for word in self._unheard}
        other._laid = {word: list(self._laid[word]) for word in self._laid}
        other._letters = list(self._letters)
        other._numbers = {letter: self._numbers[letter] for letter in self._numbers}
        other._fresh = dict(self._fresh)
        return other

    def members(self):
        """The houses' names, in order."""
        return self._members

    def letters(self):
        """All letters between houses, by their numbers."""
        return list(self._letters)

    def askers(self):
        """The askers' words, sorted."""
        return sorted(list(self._askers))

    def stopped(self):
        """The names of the houses that are stopped, sorted."""
        return sorted(list(self._stopped))

    def house(self, name):
        """A twin of a house's reader, or NoHouse."""
        return self._reader_at(name).twin()

    def asker(self, word):
        """A twin of an asker, or NoAsker."""
        return self._asker_of(word).twin()

    def unheard(self, word):
        """The letters to an asker that it hasn't heard, or NoAsker."""
        self._asker_of(word)
        return list(self._unheard[word])

    def laid(self, word):
        """The numbers of an asker's reads that were to lay a watcher, or NoAsker."""
        self._asker_of(word)
        return list(self._laid[word])

    def weave(self, rows):
        """Deeds are done, one behind the other: a list of what each tells, or NoWeaving."""
        if not isinstance(rows, list):
            raise NoWeaving(None)
        for k, row in enumerate(rows):
            if not _is_woven(row):
                raise NoWeaving(k)
        return [self._weave_one(row) for row in rows]

    def calm(self, rounds):
        """So many rounds: letters said since the last one are given, houses beat, askers hear."""
        for _ in range(rounds):
            given = list(self._fresh)
            self._fresh = {}
            for number in given:
                self._give(number)
            for name in self._members:
                if name not in self._stopped:
                    self._say(name, self._readers[name].beat())
            for word in self.askers():
                while self._hear(word) is not None:
                    pass

    def _reader_at(self, name):
        # What can't be hashed is no word, and must not be looked for in a dict.
        if not is_word(name) or name not in self._readers:
            raise NoHouse(name)
        return self._readers[name]

    def _asker_of(self, word):
        if not is_word(word) or word not in self._askers:
            raise NoAsker(word)
        return self._askers[word]

    def _weave_one(self, row):
        word = row[0]
        if word in ("seek", "beat", "stop", "begin"):
            return self._weave_at(word, row[1])
        if word == "give":
            return self._give(row[1])
        if word == "hear":
            self._asker_of(row[1])
            return self._hear(row[1])
        if word == "move":
            return self._move(row[1], row[2])
        return self._to_its_house(row[1], self._letter_of(row))

    def _weave_at(self, word, name):
        """A deed of a house's own."""
        reader = self._reader_at(name)
        if word == "begin":
            reader.begin_anew()
            self._stopped.pop(name, None)
            return None
        if name in self._stopped:
            raise Stopped(name)
        if word == "stop":
            self._stopped[name] = True
            return None
        return self._say(name, reader.seek() if word == "seek" else reader.beat())

    def _give(self, number):
        if not is_whole(number, 0) or number >= len(self._letters):
            raise NoNumber(number)
        letter = self._letters[number]
        name = letter[2]
        if name in self._stopped:
            return []
        return self._say(name, self._readers[name].take(letter))

    def _move(self, word, name):
        if not is_word(word):
            raise NoAsker(word)
        self._reader_at(name)
        if word not in self._askers:
            self._askers[word] = Asker(word)
            self._laid[word] = []
        self._unheard[word] = []
        return self._to_its_house(word, self._askers[word].move(name))

    def _letter_of(self, row):
        """The letter of an asker by a deed of its own, None of an again where no ask is under way."""
        word, asker = row[0], self._asker_of(row[1])
        if word == "ask":
            return asker.ask(row[2])
        if word == "again":
            return asker.again()
        if word == "touch":
            return asker.touch()
        letter = asker.read(row[2], row[3], watch=row[4])
        if row[4]:
            self._laid[row[1]].append(letter[2])
        return letter

    def _to_its_house(self, word, letter):
        """An asker's letter is given to its house."""
        name = self._askers[word].at()
        if letter is None or name in self._stopped:
            return []
        return self._say(name, self._readers[name].hear(letter))

    def _say(self, name, letters):
        """Letters that a house said go to the post, or to askers: told are numbers of the post."""
        numbers = {}
        for letter in letters:
            if letter[0] not in _TO_ASKERS:
                numbers[self._number_of(letter)] = True
            elif letter[1] in self._askers and self._askers[letter[1]].at() == name:
                self._unheard[letter[1]].append(letter)
        return list(numbers)

    def _number_of(self, letter):
        if letter not in self._numbers:
            self._numbers[letter] = len(self._letters)
            self._letters.append(letter)
        number = self._numbers[letter]
        self._fresh[number] = True
        return number

    def _hear(self, word):
        """An asker hears the first letter of its row: told is the letter, None of none."""
        if not self._unheard[word]:
            return None
        letter = self._unheard[word].pop(0)
        self._askers[word].hear(letter)
        return letter
