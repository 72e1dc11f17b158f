"""The refusals of the program, none of them under another one.

One with a value hands words of its own to the error class above it, so that it
shows alike whether the value was handed in by place or by name.
"""


class NoDeed(ValueError):
    """What should be a deed is none."""


class NoEntry(ValueError):
    """What should be an entry is none."""


class NoMembers(ValueError):
    """What should be members are none."""


class NoLooks(ValueError):
    """What should be looks of an election are none."""


class NoLetter(ValueError):
    """What should be a letter is none, or none to this one."""


class NoText(ValueError):
    """What should be a written text is none; where is the first bad row, or None."""

    def __init__(self, where):
        ValueError.__init__(self, "no text")
        self.where = where


class NoWeaving(ValueError):
    """What should be a weaving is none; where is the first bad deed, or None."""

    def __init__(self, where):
        ValueError.__init__(self, "no weaving")
        self.where = where


class NoDeskRow(ValueError):
    """What should be a row for a desk is none."""


class NoHouse(KeyError):
    """There is no such house as thing."""

    def __init__(self, thing):
        KeyError.__init__(self, "no such house")
        self.thing = thing


class NoAsker(KeyError):
    """There is no such asker as thing."""

    def __init__(self, thing):
        KeyError.__init__(self, "no such asker")
        self.thing = thing


class NoNumber(KeyError):
    """There is no letter of the number thing."""

    def __init__(self, thing):
        KeyError.__init__(self, "no such number")
        self.thing = thing


class NoWorld(LookupError):
    """A desk keeps no world as yet."""


class NotHead(RuntimeError):
    """A house that isn't a settled head can't put."""


class Busy(RuntimeError):
    """An asker's ask has no answer as yet."""


class Late(RuntimeError):
    """A write has a lesser number than least, the greatest that was heard."""

    def __init__(self, least):
        RuntimeError.__init__(self, "too late")
        self.least = least


class Stopped(RuntimeError):
    """The house thing is stopped."""

    def __init__(self, thing):
        RuntimeError.__init__(self, "the house is stopped")
        self.thing = thing
