"""A desk, which keeps a world and is told rows of words."""

from watchednodes.errors import NoDeskRow, NoWorld
from watchednodes.paths import is_path, is_whole, is_word
from watchednodes.states import is_deed
from watchednodes.texts import Words, show_nodes, show_row, shown_place
from watchednodes.watchers import KINDS
from watchednodes.worlds import World

_MOST_ROUNDS = 200


def _world_in(words):
    names = [words.word()]
    while not words.are_over():
        names.append(words.word())
    return ("world", tuple(names)) if all([is_word(name) for name in names]) else None


def _one_in(word, words):
    """A row of a word and the word of a house or an asker."""
    name = words.word()
    return (word, name) if is_word(name) else None


def _give_in(words):
    number = words.number()
    return ("give", number) if is_whole(number, 0) else None


def _calm_in(words):
    rounds = words.number()
    return ("calm", rounds) if is_whole(rounds, 1) and rounds <= _MOST_ROUNDS else None


def _move_in(words):
    asker = words.word()
    house = words.word()
    return ("move", asker, house) if is_word(asker) and is_word(house) else None


def _ask_in(words):
    asker = words.word()
    deed = words.deed()
    return ("ask", asker, deed) if is_word(asker) and is_deed(deed) else None


def _read_in(words):
    asker = words.word()
    kind = words.word()
    path = words.word()
    watch = words.truth()
    if not is_word(asker) or kind not in KINDS or not is_path(path) or not isinstance(watch, bool):
        return None
    return ("read", asker, kind, path, watch)


# The rows of a word and one house or asker.
_WITH_ONE = ("seek", "beat", "stop", "begin", "again", "touch", "hear", "state", "row", "at")
_OTHERS = {
    "world": _world_in, "give": _give_in, "calm": _calm_in, "move": _move_in, "ask": _ask_in, "read": _read_in,
}


def _row_in(thing):
    """What a row of words tells, a tuple that begins with its word, or NoDeskRow."""
    if not isinstance(thing, str):
        raise NoDeskRow()
    words = Words(thing)
    word = words.word()
    row = None
    if word in _WITH_ONE:
        row = _one_in(word, words)
    elif word in _OTHERS:
        row_of = _OTHERS[word]
        row = row_of(words)
    if row is None or not words.are_over():
        raise NoDeskRow()
    return row


def _in_one_row(text):
    return text.replace("\n", "; ") if text else "-"


class Desk:
    """A desk with a world, none at first."""

    def __init__(self):
        self._world = None

    def say(self, row):
        """A row of words is done: told is a text, or a refusal."""
        said = _row_in(row)
        word = said[0]
        if word == "world":
            self._world = World(said[1])
            return "ok"
        if self._world is None:
            raise NoWorld()
        if word == "calm":
            self._world.calm(said[1])
            return "ok"
        if word in ("state", "row", "at"):
            return self._shown(word, said[1])
        told = self._world.weave([said])[0]
        if word == "stop" or word == "begin":
            return "ok"
        if word == "hear":
            return "-" if told is None else told[0]
        return ",".join([str(number) for number in told]) if told else "-"

    def _shown(self, word, name):
        """What is shown of a house."""
        reader = self._world.house(name)
        house = reader.house()
        if word == "state":
            return _in_one_row(show_nodes(reader.state()[0]))
        if word == "row":
            return _in_one_row(show_row(house.done_row()))
        role = "stopped" if name in self._world.stopped() else house.role()
        return f"{role} {house.promised()} {house.epoch()} {shown_place(house.done())}"
