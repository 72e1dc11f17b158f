"""Deeds, entries, and states: tuples (nodes, sessions) that entries are done by."""

from watchednodes.errors import NoEntry
from watchednodes.nodes import done_plain, first_nodes, is_plain
from watchednodes.paths import NOWHERE, is_whole, is_word, parent_of

_MOST_LIMIT = 1000
MOST_DEEDS = 6


def _are_plain(thing):
    if not isinstance(thing, tuple) or not 1 <= len(thing) <= MOST_DEEDS:
        return False
    return all([is_plain(deed) for deed in thing])


def is_deed(thing):
    """Whether anything is a deed: a plain one, or an all, open, close or bring."""
    if not isinstance(thing, tuple) or len(thing) == 0 or not isinstance(thing[0], str):
        return False
    word = thing[0]
    if word == "close" or word == "bring":
        return len(thing) == 1
    if word == "all":
        return len(thing) == 2 and _are_plain(thing[1])
    if word == "open":
        return len(thing) == 2 and is_whole(thing[1], 1) and thing[1] <= _MOST_LIMIT
    return is_plain(thing)


def is_entry(thing):
    """Whether anything is an entry: an asker's ask, or the end of its session."""
    if not isinstance(thing, tuple) or len(thing) < 2 or not isinstance(thing[0], str):
        return False
    if not is_word(thing[1]):
        return False
    if thing[0] == "end":
        return len(thing) == 2
    if thing[0] != "ask" or len(thing) != 4:
        return False
    return is_whole(thing[2], 1) and is_deed(thing[3])


def first_state():
    """The root alone, and no sessions."""
    return first_nodes(), {}


def done(state, entry, *, place):
    """An entry done at a place: (state, answer, events), or NoEntry."""
    if not is_entry(entry):
        raise NoEntry()
    if entry[0] == "end":
        return _done_end(state, entry[1])
    return _done_ask(state, entry, place)


def _done_end(state, asker):
    nodes, sessions = dict(state[0]), dict(state[1])
    limit, stamp, answer, place = _session_of(sessions, asker)
    if limit is None:
        return (nodes, sessions), None, []
    sessions[asker] = (None, stamp, answer, place)
    nodes, events = _without_own(nodes, asker)
    return (nodes, sessions), None, events


def _done_ask(state, entry, place):
    nodes, sessions = dict(state[0]), dict(state[1])
    _, asker, stamp, deed = entry
    limit, last_stamp, last_answer, _ = _session_of(sessions, asker)
    if stamp <= last_stamp:
        # Letters come twice and late: an ask that was done must not be done again.
        answer = last_answer if stamp == last_stamp else None
        return (nodes, sessions), answer, []
    nodes, limit, answer, events = _done_deed(nodes, limit, deed, asker)
    sessions[asker] = (limit, stamp, answer, place)
    return (nodes, sessions), answer, events


def _session_of(sessions, asker):
    # Stamps go from 1 on, so the first ask of one that never asked is ahead of 0.
    return sessions.get(asker, (None, 0, None, NOWHERE))


def _done_deed(nodes, limit, deed, asker):
    """A deed done in a session of this limit, None of none: (nodes, limit, answer, events)."""
    word = deed[0]
    if word == "open":
        return _done_open(nodes, limit, deed[1])
    if limit is None:
        return nodes, None, ("no", "closed"), []
    if word == "close":
        after, events = _without_own(nodes, asker)
        return after, None, ("ok", None), events
    if word == "bring":
        return nodes, limit, ("ok", None), []
    if word == "all":
        after, answer, events = _done_all(nodes, deed[1], asker)
    else:
        after, answer, events = done_plain(nodes, deed, asker=asker)
    return after, limit, answer, events


def _done_open(nodes, limit, asked):
    if limit is not None:
        return nodes, limit, ("no", "open"), []
    return nodes, asked, ("ok", None), []


def _done_all(nodes, deeds, asker):
    after = nodes
    values = []
    events = []
    for k, deed in enumerate(deeds):
        after, answer, more = done_plain(after, deed, asker=asker)
        if answer[0] == "no":
            return nodes, ("no", answer[1], k), []
        values.append(answer[1])
        events.extend(more)
    return after, ("ok", tuple(values)), events


def _without_own(nodes, asker):
    """The nodes that stay when an asker's session ends, and the events of those that go."""
    after = {path: node for path, node in nodes.items() if node[3] != asker}
    events = []
    for gone in sorted([path for path in nodes if path not in after]):
        events.extend([("gone", gone), ("kids", parent_of(gone))])
    return after, events
