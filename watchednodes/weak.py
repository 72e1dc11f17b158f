"""Weavings that show what is lost by elections that look at less, and by a lock without a fence."""

from watchednodes.errors import NoLooks

HOUSES = ("ann", "bea", "cyd")

# Bob's open is done, as ann and bea took it, and he hears the answer; then cyd, who has
# nothing of it, is elected by bea, whose row is cut to hers.
_LOSING = (
    # ann leads, bea and cyd are synced: both have her epoch.
    ("seek", "ann"), ("give", 0), ("give", 2), ("give", 3), ("give", 4),
    ("give", 1), ("give", 5), ("give", 6), ("give", 7),
    # bea takes what bob asks, cyd doesn't.
    ("move", "bob", "ann"), ("ask", "bob", ("open", 9)), ("give", 8), ("give", 10), ("hear", "bob"),
    # bea promises cyd by 15, is brought up by 18, and is synced by 21. What four others ask
    # meanwhile is there so that letters of these numbers are said with looks all too.
    ("seek", "cyd"), ("give", 14), ("move", "dan", "ann"), ("ask", "dan", ("open", 9)),
    ("give", 15), ("move", "eli", "ann"), ("ask", "eli", ("open", 9)),
    ("give", 18), ("move", "fay", "ann"), ("ask", "fay", ("open", 9)),
    ("move", "gus", "ann"), ("ask", "gus", ("open", 9)), ("give", 21),
)

# Nothing is heard of first, who holds the lock, so its session ends, and second holds the
# lock by the next number: but first, who read nothing since, holds it likewise for all it knows.
_UNFENCED = (
    # ann leads, bea is synced.
    ("seek", "ann"), ("give", 0), ("give", 2), ("give", 3), ("give", 4),
    ("move", "first", "ann"), ("ask", "first", ("open", 1)), ("give", 5), ("give", 6), ("hear", "first"),
    ("ask", "first", ("make", "/lock", "", False, False)), ("give", 8), ("give", 9), ("hear", "first"),
    ("ask", "first", ("make", "/lock/turn", "", True, True)), ("give", 11), ("give", 12), ("hear", "first"),
    ("read", "first", "kids", "/lock", False), ("hear", "first"),
    ("move", "second", "ann"), ("ask", "second", ("open", 1000)), ("give", 14), ("give", 15), ("hear", "second"),
    # Two beats are more than the limit of first.
    ("beat", "ann"), ("beat", "ann"), ("give", 18), ("give", 19),
    ("ask", "second", ("make", "/lock/turn", "", True, True)), ("give", 21), ("give", 22), ("hear", "second"),
    ("read", "second", "kids", "/lock", False), ("hear", "second"),
)


def losing(looks):
    """A weaving by which with these looks something is lost that was heard, or NoLooks."""
    if not isinstance(looks, str) or looks not in ("epoch", "none"):
        raise NoLooks()
    return list(_LOSING)


def unfenced():
    """A weaving behind which two askers hold one lock, each by what it read last."""
    return list(_UNFENCED)
