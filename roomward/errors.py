"""The refusals: one class each, all of them straight under WardError."""


class WardError(ValueError):
    """Any refusal."""


class NoName(WardError):
    """Something stands where a name is asked for and is none."""


class NoDeed(WardError):
    """Something stands where a deed is asked for and is none."""


class NoRoom(WardError):
    """A room is asked about that isn't there."""


class TwiceTold(WardError):
    """Something is told twice that may be told once alone."""


class TooMany(WardError):
    """There are more of something, or fewer, than its bounds allow."""


class NoRule(WardError):
    """No rule can be made of what is told, or no text tells of it."""


class NoRow(WardError):
    """A row is handed in that the whole warden doesn't let."""


class NoHold(WardError):
    """A free deed is told as held."""


class NoHolder(WardError):
    """A deed that isn't free is held by nobody."""


class FreeDeed(WardError):
    """A free deed is asked for by a letter."""


class NotNow(WardError):
    """What is asked isn't so at this room."""


class NoWarden(WardError):
    """There is no warden: a word and a row of free deeds from the begin tell why."""

    def __init__(self, word, row):
        # Python keeps what an error is made of: so it gets a copy, and the asker's list isn't kept.
        WardError.__init__(self, word, list(row))
        self.word = word
        self.row = list(row)


class NoText(WardError):
    """A text tells of no house: the number of its row, or 0."""

    def __init__(self, row):
        self.row = row


class NoBook(WardError):
    """A book isn't what comes: the number of its row, from 0."""

    def __init__(self, row):
        self.row = row
