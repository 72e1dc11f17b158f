"""Rows, lists of tuples (place, entry), and what they tell."""

from watchednodes.paths import NOWHERE, is_place
from watchednodes.states import done, first_state, is_entry


def is_placed(thing):
    """Whether anything is a tuple of a place and an entry."""
    if not isinstance(thing, tuple) or len(thing) != 2:
        return False
    return is_place(thing[0]) and is_entry(thing[1])


def _may_follow(place, last):
    """Whether a place may stand right behind the last one of a row, NOWHERE of none."""
    if place[0] > last[0]:
        return place[1] == 1
    return last != NOWHERE and place == (last[0], last[1] + 1)


def is_row(thing):
    """Whether anything is a row."""
    if not isinstance(thing, list):
        return False
    last = NOWHERE
    for placed in thing:
        if not is_placed(placed) or not _may_follow(placed[0], last):
            return False
        last = placed[0]
    return True


class Tale:
    """What the things of a row tell, kept: as the row goes on none of them is done again."""

    def __init__(self):
        self._row = []
        self._state = first_state()
        self._told = []

    def go_on(self, row):
        """It tells of this row from now on."""
        if not is_beginning(self._row, row):
            self._row = []
            self._state = first_state()
            self._told = []
        for place, entry in row[len(self._row):]:
            self._state, answer, events = done(self._state, entry, place=place)
            self._told.append((place, answer, events))
        self._row = list(row)

    def state(self):
        """The state behind all entries of the row."""
        nodes, sessions = self._state
        return dict(nodes), dict(sessions)

    def told(self):
        """What each entry of the row tells: a list of tuples (place, answer, events)."""
        return [(place, answer, list(events)) for place, answer, events in self._told]

    def twin(self):
        """A tale that tells the same."""
        other = Tale()
        other._row = list(self._row)
        other._state = self._state
        other._told = list(self._told)
        return other


def _tale_of(row):
    tale = Tale()
    tale.go_on(row)
    return tale


def state_of(row):
    """The state behind all entries of a row."""
    return _tale_of(row).state()


def told_by(row):
    """What each entry of a row tells: a list of tuples (place, answer, events)."""
    return _tale_of(row).told()


def is_beginning(one, other):
    """Whether the things of one row are the first ones of another."""
    return other[:len(one)] == one


def up_to(row, place):
    """The things of a row whose places aren't greater."""
    return [placed for placed in row if placed[0] <= place]


def behind(row, place):
    """The things of a row whose places are greater."""
    return [placed for placed in row if placed[0] > place]


def last_place(row):
    """The place of the last thing of a row, NOWHERE of none."""
    return row[-1][0] if row else NOWHERE


def has_place(row, place):
    """Whether a thing of a row stands at a place."""
    return place in [own for own, _ in row]


def next_place(row, epoch):
    """The place behind a row's last one of an epoch, its first one where there is none."""
    numbers = [place[1] for place, _ in row if place[0] == epoch]
    return epoch, (numbers[-1] if numbers else 0) + 1
