"""The errors of the package; each keeps what it was made with."""

from evenrules.keeping import kept


class FairError(ValueError):
    """The base of all errors of the package."""


class BadRule(FairError):
    """What should be a rule, or this part of one, is none."""

    def __init__(self, part):
        self.part = kept(part)


class NoHalves(FairError):
    """Sides that are as equal as can be are not fair by the numbers of a rule: a tree of this weight has none."""

    def __init__(self, weight):
        self.weight = kept(weight)


class BadNumber(FairError):
    """A value is no number of the wanted kind, or is out of its bounds."""

    def __init__(self, value):
        self.value = kept(value)


class BadTest(FairError):
    """A part of a test, or the test with this index in a list, is none; None stands for the list."""

    def __init__(self, at):
        self.at = kept(at)


class BadKey(FairError):
    """A value is no key."""

    def __init__(self, value):
        self.value = kept(value)


class NoKey(FairError):
    """A key is not there."""

    def __init__(self, key):
        self.key = kept(key)


class Taken(FairError):
    """A key is there already."""

    def __init__(self, key):
        self.key = kept(key)


class Overlap(FairError):
    """A key is not greater than all keys that should be less."""

    def __init__(self, key):
        self.key = kept(key)


class Stuck(FairError):
    """The deed with this key would turn a node twice whose inner side has no key."""

    def __init__(self, key):
        self.key = kept(key)


class BadOther(FairError):
    """An argument is not of the wanted kind."""

    def __init__(self, part):
        self.part = kept(part)


class BadDeeds(FairError):
    """A value names no deeds."""

    def __init__(self, value):
        self.value = kept(value)


class BadPages(FairError):
    """The item with this index is no number of entries of a page."""

    def __init__(self, at):
        self.at = kept(at)


class BadText(FairError):
    """The word of a line of a text cannot stand there, or lacks."""

    def __init__(self, line, word):
        self.line = kept(line)
        self.word = kept(word)


class BadCommand(FairError):
    """The word of a line for a desk cannot stand there, or lacks."""

    def __init__(self, word):
        self.word = kept(word)


class BadName(FairError):
    """A value is no name."""

    def __init__(self, value):
        self.value = kept(value)


class NoName(FairError):
    """A name stands for nothing that is wanted."""

    def __init__(self, name):
        self.name = kept(name)


class Nothing(FairError):
    """There is nothing that could be told."""


class TooMany(FairError):
    """There would be more of something than the most that is allowed."""

    def __init__(self, what, most):
        self.what = kept(what)
        self.most = kept(most)
