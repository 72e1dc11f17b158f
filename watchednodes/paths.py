"""Words, parts, paths and places, and the whole numbers that places are made of."""

NOWHERE = (0, 0)
ROOT = "/"

_LETTERS = "abcdefghijklmnopqrstuvwxyz"
_FIGURES = "0123456789"
_MOST_LETTERS = 8
_MANY_FIGURES = 6
_MOST_PARTS = 5


def is_whole(thing, least):
    """Whether anything is a whole number from least on."""
    return isinstance(thing, int) and not isinstance(thing, bool) and thing >= least


def _is_of(text, signs):
    # Python's own isalpha and isdigit take signs of other scripts too.
    return all([sign in signs for sign in text])


def is_figures(text):
    """Whether a text has figures alone, and has any."""
    return text != "" and _is_of(text, _FIGURES)


def is_word(thing):
    """Whether anything is a word: 1 to 8 small letters."""
    return isinstance(thing, str) and 1 <= len(thing) <= _MOST_LETTERS and _is_of(thing, _LETTERS)


def is_part(thing):
    """Whether anything is a part of a path: a word, perhaps with - and six figures."""
    if not isinstance(thing, str):
        return False
    word, dash, figures = thing.partition("-")
    if dash == "":
        return is_word(word)
    return is_word(word) and len(figures) == _MANY_FIGURES and is_figures(figures)


def is_path(thing):
    """Whether anything is a path: the root, or one to five parts, / ahead of each."""
    if not isinstance(thing, str) or not thing.startswith(ROOT):
        return False
    parts = parts_of(thing)
    return len(parts) <= _MOST_PARTS and all([is_part(part) for part in parts])


def is_place(thing):
    """Whether anything is a place: a tuple of an epoch and a number, each from 0 on."""
    if not isinstance(thing, tuple) or len(thing) != 2:
        return False
    return is_whole(thing[0], 0) and is_whole(thing[1], 0)


def parent_of(path):
    """The path right above one that isn't the root."""
    above = path.rpartition("/")[0]
    return above if above else ROOT


def last_part(path):
    """The last part of a path that isn't the root."""
    return path.rpartition("/")[2]


def path_below(path, part):
    """The path of a child, by its part."""
    return f"/{part}" if path == ROOT else f"{path}/{part}"


def parts_of(path):
    """The parts of a path, from the root on; the root has none."""
    if path == ROOT:
        return []
    return path[1:].split("/")
