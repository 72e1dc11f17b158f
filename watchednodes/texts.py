"""Nodes, entries and rows written as texts, and read from them."""

from watchednodes.errors import NoText
from watchednodes.nodes import MOST_NODES, is_text
from watchednodes.paths import ROOT, is_figures, is_path, is_whole, is_word, parent_of
from watchednodes.rows import is_placed, is_row
from watchednodes.states import MOST_DEEDS, is_entry

# Python itself reads no number of more than 4300 figures.
_MOST_FIGURES = 4000


def _shown_text(text):
    return f"{len(text)} {text}"


def _shown_or_none(thing):
    return "-" if thing is None else str(thing)


def _shown_truth(truth):
    return "yes" if truth else "no"


def shown_place(place):
    """A place as it is written within a row."""
    return f"{place[0]}.{place[1]}"


def _shown_deed(deed):
    word = deed[0]
    if word == "all":
        return " ".join([word, str(len(deed[1]))] + [_shown_deed(plain) for plain in deed[1]])
    if word == "open":
        return f"open {deed[1]}"
    if word == "make":
        _, path, text, own, numbered = deed
        return f"make {path} {_shown_truth(own)} {_shown_truth(numbered)} {_shown_text(text)}"
    if word == "put":
        return f"put {deed[1]} {_shown_or_none(deed[3])} {_shown_text(deed[2])}"
    if word == "drop" or word == "see":
        return f"{word} {deed[1]} {_shown_or_none(deed[2])}"
    return word


def show_nodes(nodes):
    """Nodes as a text."""
    rows = []
    for path in sorted(list(nodes)):
        text, count, made, owner = nodes[path]
        rows.append(f"{path} {count} {made} {_shown_or_none(owner)} {_shown_text(text)}")
    return "\n".join(rows)


def show_entry(entry):
    """An entry as a text."""
    if entry[0] == "end":
        return f"end {entry[1]}"
    _, asker, stamp, deed = entry
    return f"{asker}.{stamp} {_shown_deed(deed)}"


def show_row(row):
    """The things of a row as a text."""
    return "\n".join([f"{shown_place(place)} {show_entry(entry)}" for place, entry in row])


def number_in(word):
    """The number that a word tells, or the text without signs, which no form takes for one."""
    if not is_figures(word) or len(word) > _MOST_FIGURES or (word != "0" and word.startswith("0")):
        return ""
    return int(word)


class Words:
    """The words and texts of a row, taken one behind the other.

    Where there is none, or none such, told is what no form takes for one.
    """

    def __init__(self, row):
        # What stands behind the blank that parts it from what was taken, None where nothing does.
        self._rest = row

    def are_over(self):
        """Whether nothing stands behind what was taken."""
        return self._rest is None

    def word(self):
        """The next word."""
        if self._rest is None:
            return ""
        word, blank, rest = self._rest.partition(" ")
        self._rest = rest if blank else None
        return word

    def number(self):
        """The next word as a number."""
        return number_in(self.word())

    def number_or_none(self):
        """The next word as a number, or None."""
        word = self.word()
        return None if word == "-" else number_in(word)

    def word_or_none(self):
        """The next word, or None."""
        word = self.word()
        return None if word == "-" else word

    def truth(self):
        """The next word as a truth."""
        word = self.word()
        return word == "yes" if word in ("yes", "no") else ""

    def text(self):
        """The next text, None of none."""
        many = self.number()
        if not is_whole(many, 0) or self._rest is None or many > len(self._rest):
            return None
        text, behind = self._rest[:many], self._rest[many:]
        if behind != "" and not behind.startswith(" "):
            return None
        self._rest = behind[1:] if behind else None
        return text

    def deed(self):
        """The next deed."""
        word = self.word()
        if word == "close" or word == "bring":
            return (word,)
        if word == "open":
            return (word, self.number())
        if word != "all":
            return self._plain(word)
        many = self.number()
        if not is_whole(many, 1) or many > MOST_DEEDS:
            return (word,)
        return (word, tuple([self._plain(self.word()) for _ in range(many)]))

    def _plain(self, word):
        path = self.word()
        if word == "make":
            own = self.truth()
            numbered = self.truth()
            return (word, path, self.text(), own, numbered)
        if word == "put":
            count = self.number_or_none()
            return (word, path, self.text(), count)
        return (word, path, self.number_or_none())

    def entry(self):
        """The next entry."""
        word = self.word()
        if word == "end":
            return (word, self.word())
        asker, _, stamp = word.partition(".")
        return ("ask", asker, number_in(stamp), self.deed())

    def place(self):
        """The next place."""
        epoch, _, number = self.word().partition(".")
        return number_in(epoch), number_in(number)


def _rows_of(text):
    """The rows of a text, which has none where it has no signs; or NoText."""
    if not isinstance(text, str):
        raise NoText(0)
    return text.split("\n") if text else []


def _node_in(row):
    """The path and the node that a row tells, None where it is none."""
    words = Words(row)
    path = words.word()
    count = words.number()
    made = words.number()
    owner = words.word_or_none()
    text = words.text()
    if not words.are_over() or not is_path(path) or not is_text(text):
        return None
    if not is_whole(count, 0) or not is_whole(made, 0) or not (owner is None or is_word(owner)):
        return None
    return path, (text, count, made, owner)


def _entry_in(row):
    """The entry that a row tells, None where it is none."""
    words = Words(row)
    entry = words.entry()
    return entry if words.are_over() and is_entry(entry) else None


def _placed_in(row):
    """The place and the entry that a row tells, None where it is none."""
    words = Words(row)
    place = words.place()
    entry = words.entry()
    return (place, entry) if words.are_over() and is_placed((place, entry)) else None


def _are_nodes(pairs):
    """Whether paths with nodes, in order, are nodes as they are written."""
    paths = [path for path, _ in pairs]
    nodes = dict(pairs)
    if paths != sorted(list(nodes)) or len(paths) > MOST_NODES:
        return False
    return ROOT in nodes and all([path == ROOT or parent_of(path) in nodes for path in paths])


def read_nodes(text):
    """The nodes that are so written, or NoText."""
    pairs = []
    for k, row in enumerate(_rows_of(text)):
        pair = _node_in(row)
        if pair is None:
            raise NoText(k)
        pairs.append(pair)
    if not _are_nodes(pairs):
        raise NoText(None)
    return dict(pairs)


def read_entry(text):
    """The entry that is so written, or NoText."""
    rows = _rows_of(text)
    entry = _entry_in(rows[0]) if rows else None
    if entry is None:
        raise NoText(0)
    if len(rows) > 1:
        raise NoText(1)
    return entry


def read_row(text):
    """The things of a row that are so written, or NoText."""
    things = []
    for k, row in enumerate(_rows_of(text)):
        placed = _placed_in(row)
        if placed is None:
            raise NoText(k)
        things.append(placed)
    if not is_row(things):
        raise NoText(None)
    return things
