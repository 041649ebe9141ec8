"""Plays: letters ask a warden for deeds, free deeds come, and a book keeps what was done."""

from roomward.deeds import is_name
from roomward.errors import FreeDeed, NoName, NotNow, TooMany

MOST_LETTERS = 20


class Play:
    """A warden that stands at a room, and the letters that wait."""

    def __init__(self, warden):
        self.whole = warden
        self.standing = warden.begin()
        self.done = []
        self.waiting = []
        self.book_rows = []

    def send(self, asker, deed):
        """Let a letter wait by which somebody asks for a deed."""
        if not is_name(asker):
            raise NoName("the asker's name is none")
        if self.whole.house().deeds().is_free(deed):
            raise FreeDeed(f"the deed {deed} is free, nobody asks for it")
        if len(self.waiting) >= MOST_LETTERS:
            raise TooMany("twenty letters wait")
        self.waiting.append((asker, deed))
        self.book_rows.append(("send", asker, deed))

    def answer_to(self, deed):
        """The answer to who asks for a deed now."""
        if self.whole.to(self.standing, deed) is not None:
            return "let"
        return "forbidden" if deed in self.whole.forbids(self.standing) else "idle"

    def go(self, deed):
        """Do a deed that the warden lets."""
        self.standing = self.whole.to(self.standing, deed)
        self.done.append(deed)

    def turn(self):
        """Answer the first letter: the triple of its asker, its deed and the answer, None without letters."""
        if not self.waiting:
            return None
        asker, deed = self.waiting.pop(0)
        answer = self.answer_to(deed)
        if answer == "let":
            self.go(deed)
        self.book_rows.append(("turn", asker, deed, answer))
        return (asker, deed, answer)

    def came(self, deed):
        """Do a free deed that came."""
        if not self.whole.house().deeds().is_free(deed):
            raise NotNow(f"the deed {deed} isn't free")
        # The warden forbids no free deed: what it doesn't let of them the machines can't do.
        if self.whole.to(self.standing, deed) is None:
            raise NotNow(f"the machines can't do the deed {deed} now")
        self.go(deed)
        self.book_rows.append(("came", deed))

    def room(self):
        """The room where the warden stands."""
        return self.standing

    def told(self):
        """The list of the deeds done."""
        return list(self.done)

    def letters(self):
        """The list of the pairs of an asker and a deed that wait."""
        return list(self.waiting)

    def at_end(self):
        """Tell whether the room where the warden stands is an end."""
        return self.whole.house().is_end(self.standing)

    def book(self):
        """The list of what was done, as it came."""
        return list(self.book_rows)
