"""Deeds: the names of what can be done, some of them free."""

from roomward.errors import NoDeed, NoName, TooMany, TwiceTold

LETTERS = "abcdefghijklmnopqrstuvwxyz"
FIGURES = "0123456789"
MOST_SIGNS = 8
MOST_DEEDS = 12


def is_name(thing):
    """Tell whether a thing is a name: 1 to 8 small letters and figures, a letter first."""
    if not isinstance(thing, str) or not thing or len(thing) > MOST_SIGNS:
        return False
    signs = LETTERS + FIGURES
    return thing[0] in LETTERS and all([sign in signs for sign in thing])


def refuse_names(names):
    """Refuse a list that can't be the names of deeds."""
    if len(names) > MOST_DEEDS:
        raise TooMany("there are over twelve deeds")
    ahead = {}
    for name in names:
        if not is_name(name):
            raise NoName("a deed's name is none")
        if name in ahead:
            raise TwiceTold(f"the deed {name} is told twice")
        ahead[name] = True


def weights_of(names):
    """Give the k-th of the rising names the k-th power of two."""
    weights = {}
    weight = 1
    for name in sorted(names):
        weights[name] = weight
        weight = weight * 2
    return weights


def marks_of(names):
    """Mark each name of a list, however often it stands there, once."""
    marks = {}
    for name in names:
        marks[name] = True
    return marks


class Deeds:
    """At most twelve unlike names, some of them free."""

    def __init__(self, names, free=None):
        refuse_names(names)
        self.weights = weights_of(names)
        free_names = [] if free is None else free
        self.require(free_names)
        self.free_marks = marks_of(free_names)

    def names(self):
        """The rising list of the deeds."""
        return list(self.weights)

    def free(self):
        """The rising list of the free deeds."""
        return sorted(self.free_marks)

    def has(self, thing):
        """Tell of anything whether it is one of these deeds."""
        # Asking for a name first keeps what can't be a dict's key out of the dict.
        return is_name(thing) and thing in self.weights

    def require(self, row):
        """Refuse a list where any thing in it is no deed."""
        for deed in row:
            if not self.has(deed):
                raise NoDeed("there is no such deed")

    def is_free(self, deed):
        """Tell whether a deed is free."""
        self.require([deed])
        return deed in self.free_marks

    def bits(self, names):
        """The number that tells a list of deeds."""
        self.require(names)
        total = 0
        for name in names:
            total = total | self.weights[name]
        return total

    def names_of(self, bits):
        """The rising list of the deeds that a number tells."""
        return [name for name in self.weights if (bits & self.weights[name]) != 0]
