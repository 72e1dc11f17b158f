"""Nodes, a dict from paths to tuples (text, count, made, owner), and the plain deeds."""

from watchednodes.errors import NoDeed
from watchednodes.paths import ROOT, is_path, is_whole, is_word, last_part, parent_of

MOST_NODES = 60
MOST_TEXT = 40

# The greatest number that six figures can tell.
_MOST_FIGURED = 999999


def is_text(thing):
    """Whether anything is a node's text: 0 to 40 signs from the blank to ~."""
    if not isinstance(thing, str) or len(thing) > MOST_TEXT:
        return False
    return all([" " <= sign <= "~" for sign in thing])


def _is_count(thing):
    return thing is None or is_whole(thing, 0)


def _is_make(path, text, own, numbered):
    if not is_text(text) or not isinstance(own, bool) or not isinstance(numbered, bool):
        return False
    return is_word(last_part(path)) if numbered else path != ROOT


def is_plain(thing):
    """Whether anything is a plain deed: a make, put, drop or see."""
    if not isinstance(thing, tuple) or len(thing) < 2:
        return False
    word, path = thing[:2]
    if not isinstance(word, str) or not is_path(path):
        return False
    if word == "make":
        return len(thing) == 5 and _is_make(path, thing[2], thing[3], thing[4])
    if word == "put":
        return len(thing) == 4 and is_text(thing[2]) and _is_count(thing[3])
    if len(thing) != 3 or not _is_count(thing[2]):
        return False
    return word == "see" or (word == "drop" and path != ROOT)


def first_nodes():
    """The root alone."""
    return {ROOT: ("", 0, 0, None)}


def node_at(nodes, path):
    """The node at a path, None where there is none."""
    return nodes.get(path)


def kids_of(nodes, path):
    """The last parts of a node's children, sorted; None where there is no node."""
    if path not in nodes:
        return None
    below = [other for other in nodes if other != ROOT]
    return sorted([last_part(other) for other in below if parent_of(other) == path])


def done_plain(nodes, deed, *, asker):
    """A plain deed done for an asker: (nodes, answer, events), or NoDeed."""
    if not is_plain(deed):
        raise NoDeed()
    word = deed[0]
    if word == "make":
        return _done_make(nodes, deed, asker)
    if word == "put":
        return _done_put(nodes, deed)
    if word == "drop":
        return _done_drop(nodes, deed)
    return _done_see(nodes, deed)


def _refused(nodes, word):
    return dict(nodes), ("no", word), []


def _done_make(nodes, deed, asker):
    _, asked, text, own, numbered = deed
    above = parent_of(asked)
    if above not in nodes:
        return _refused(nodes, "parent")
    above_text, above_count, made, owner = nodes[above]
    if owner is not None:
        return _refused(nodes, "own")
    path = f"{asked}-{made:06d}" if numbered else asked
    if path in nodes:
        return _refused(nodes, "there")
    if len(nodes) >= MOST_NODES or (numbered and made > _MOST_FIGURED):
        return _refused(nodes, "full")
    after = dict(nodes)
    after[path] = (text, 0, 0, asker if own else None)
    after[above] = (above_text, above_count, made + 1, owner)
    return after, ("ok", path), [("made", path), ("kids", above)]


def _why_not(nodes, path, count):
    """What forbids a deed on the node at a path that should have a count, or None."""
    if path not in nodes:
        return "lacks"
    if count is not None and count != nodes[path][1]:
        return "count"
    return None


def _done_put(nodes, deed):
    _, path, text, asked = deed
    word = _why_not(nodes, path, asked)
    if word is not None:
        return _refused(nodes, word)
    _, count, made, owner = nodes[path]
    after = dict(nodes)
    after[path] = (text, count + 1, made, owner)
    return after, ("ok", count + 1), [("text", path)]


def _done_drop(nodes, deed):
    _, path, asked = deed
    word = _why_not(nodes, path, asked)
    if word is not None:
        return _refused(nodes, word)
    if kids_of(nodes, path):
        return _refused(nodes, "kids")
    after = dict(nodes)
    del after[path]
    return after, ("ok", None), [("gone", path), ("kids", parent_of(path))]


def _done_see(nodes, deed):
    _, path, asked = deed
    word = _why_not(nodes, path, asked)
    if word is not None:
        return _refused(nodes, word)
    return dict(nodes), ("ok", nodes[path][1]), []
