"""Desks: rows of words ask a house, its warden and its play, and are answered by texts."""

from roomward.errors import FreeDeed, NoDeed, NoName, NotNow, NoWarden, TooMany
from roomward.houses import House
from roomward.least import least
from roomward.parts import Part, differs
from roomward.plays import Play
from roomward.rounds import left
from roomward.texts import read
from roomward.warden import Warden

# How many words a row has, by its first one; behind those of an open row any number of deeds may stand.
MANY_WORDS = {"rooms": 1, "least": 1, "turn": 1, "where": 1, "came": 2, "send": 3}
MANY_OPEN_WORDS = {"lets": 1, "forbids": 1, "part": 1, "why": 2}


def word_rows(text):
    """The list of the rows of a text that have words, each the list of its words."""
    rows = [row.split() for row in text.split("\n")]
    return [words for words in rows if words]


def is_row(words):
    """Tell whether the words of a row are of a told form."""
    if words[0] in MANY_OPEN_WORDS:
        return len(words) >= MANY_OPEN_WORDS[words[0]]
    return MANY_WORDS.get(words[0]) == len(words)


def spoken(deeds):
    """The text of a list of deeds."""
    return " ".join(deeds) if deeds else "-"


def counted(house):
    """How many rooms a house has and how many are left."""
    many = len(house.rooms())
    many_left = len(left(house))
    return f"{many} {many_left}"


class Desk:
    """A warden and a play of it, which rows of words ask."""

    def __init__(self, warden):
        self.whole = warden
        self.play = Play(warden)

    def at_room(self, room, words):
        """The answer to what is asked of a room of the warden: lets, forbids, or why of a deed."""
        if words[0] == "lets":
            return spoken(self.whole.lets(room))
        if words[0] == "forbids":
            return spoken(self.whole.forbids(room))
        reason, row = self.whole.why(room, words[1])
        return reason + " " + spoken(row)

    def behind_row(self, words):
        """The answer to what is asked of the room behind a row."""
        room = self.whole.behind(words[MANY_OPEN_WORDS[words[0]]:])
        return "not let" if room is None else self.at_room(room, words)

    def in_part(self, seen):
        """The answer to whether a warden that sees some deeds alone is as good as the whole one."""
        found = differs(Part(self.whole, seen))
        if found is None:
            return "as good"
        row, other, deed = found
        return "alike: " + spoken(row) + " / " + spoken(other) + " : " + deed

    def in_play(self, words):
        """The answer to what is done in the play, or asked of it."""
        if words[0] == "send":
            self.play.send(words[1], words[2])
            return "ok"
        if words[0] == "came":
            self.play.came(words[1])
            return "ok"
        if words[0] == "turn":
            turned = self.play.turn()
            return "nothing" if turned is None else " ".join(turned)
        return spoken(self.play.told()) + (" end" if self.play.at_end() else " on")

    def does(self, words):
        """The answer to a row, but where it is refused."""
        if not is_row(words):
            return "no row"
        if words[0] == "rooms":
            return counted(self.whole.house())
        if words[0] == "least":
            return str(len(least(self.whole).rooms()))
        if words[0] == "part":
            return self.in_part(words[1:])
        return self.behind_row(words) if words[0] in MANY_OPEN_WORDS else self.in_play(words)

    def answer(self, words):
        """The answer to a row."""
        try:
            return self.does(words)
        except NoName:
            return "refused NoName"
        except NoDeed:
            return "refused NoDeed"
        except FreeDeed:
            return "refused FreeDeed"
        except NotNow:
            return "refused NotNow"
        except TooMany:
            return "refused TooMany"


def answers_without(house, asked, word, row):
    """The answers to rows where there is no warden: a word and a row tell why."""
    refusal = " ".join(["no warden:", word] + row)
    return [counted(house) if words == ["rooms"] else refusal for words in asked]


def answers_of(text, rows):
    """The list of the answers to rows of words about the house that a text tells."""
    deeds, plant, rules = read(text)
    house = House(deeds, plant, rules)
    asked = word_rows(rows)
    try:
        desk = Desk(Warden(house))
    except TooMany:
        return ["refused TooMany" for words in asked]
    except NoWarden as refusal:
        return answers_without(house, asked, refusal.word, refusal.row)
    return [desk.answer(words) for words in asked]
