"""Letters between houses: tuples (word, from, to, epoch, ..), told by their forms."""

from watchednodes.paths import is_place, is_whole, is_word
from watchednodes.rows import is_placed
from watchednodes.states import is_entry

_WAYS = ("more", "cut", "all")
_MANY_AHEAD = 4


def _is_rising(base, things):
    """Whether the places of these things rise, and are greater than base."""
    last = base
    for place, _ in things:
        if place <= last:
            return False
        last = place
    return True


def _fits_seek(rest):
    return len(rest) == 2 and is_whole(rest[0], 0) and is_place(rest[1])


def _fits_place(rest):
    return len(rest) == 1 and is_place(rest[0])


def _fits_nothing(rest):
    return len(rest) == 0


def _fits_sync(rest):
    if len(rest) != 4:
        return False
    way, base, things, last_done = rest
    if not isinstance(way, str) or way not in _WAYS or not is_place(base) or not is_place(last_done):
        return False
    if not isinstance(things, tuple) or not all([is_placed(placed) for placed in things]):
        return False
    return _is_rising(base, things)


def _fits_propose(rest):
    if len(rest) != 3 or not is_place(rest[0]) or not is_place(rest[1]):
        return False
    return rest[0] < rest[1] and is_entry(rest[2])


def _fits_forward(rest):
    return len(rest) == 1 and is_entry(rest[0]) and rest[0][0] == "ask"


def _fits_touch(rest):
    return len(rest) == 1 and is_word(rest[0])


# What stands behind a letter's epoch, by the letter's word.
_FITS = {
    "seek": _fits_seek,
    "promise": _fits_place,
    "lead": _fits_nothing,
    "sync": _fits_sync,
    "lack": _fits_nothing,
    "synced": _fits_place,
    "propose": _fits_propose,
    "took": _fits_place,
    "done": _fits_place,
    "forward": _fits_forward,
    "touch": _fits_touch,
}


def is_letter(thing):
    """Whether anything is a letter between houses by its form."""
    if not isinstance(thing, tuple) or len(thing) < _MANY_AHEAD:
        return False
    word, sender, to, epoch = thing[:_MANY_AHEAD]
    if not isinstance(word, str) or word not in _FITS:
        return False
    if not is_word(sender) or not is_word(to) or sender == to or not is_whole(epoch, 0):
        return False
    fits = _FITS[word]
    return fits(thing[_MANY_AHEAD:])
