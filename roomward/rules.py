"""Rules: which rows of deeds are wanted, each told as a machine that such rows go along."""

from roomward.errors import NoRule, TooMany
from roomward.machines import Machine
from roomward.weaving import Woven, made_one

MOST_TIMES = 6
MOST_RULES = 4
MOST_DEEP = 3


def is_times(thing):
    """Tell whether a thing is a whole number from 0 to 6 (Python counts truths as numbers too)."""
    return isinstance(thing, int) and not isinstance(thing, bool) and 0 <= thing <= MOST_TIMES


class Rule:
    """Any rule."""

    def about(self):
        """The list of the deeds that must be there for its machine."""
        return []

    def deep(self):
        """How many All rules stand in one another here."""
        return 0


class Never(Rule):
    """The deed is never done."""

    def __init__(self, deed):
        self.deed = deed

    def about(self):
        """The deed."""
        return [self.deed]

    def machine(self, deeds):
        """One room without a door."""
        return Machine(deeds, "r0", ["r0"], [], self.about())


class Most(Rule):
    """The deed is done at most so many times."""

    def __init__(self, deed, many):
        if not is_times(many):
            raise NoRule("how many times is told by a number from 0 to 6")
        self.deed = deed
        self.many = many

    def about(self):
        """The deed."""
        return [self.deed]

    def machine(self, deeds):
        """A room for each number of times that it was done."""
        rooms = [f"r{times}" for times in range(self.many + 1)]
        doors = [(rooms[times], self.deed, rooms[times + 1]) for times in range(self.many)]
        return Machine(deeds, "r0", rooms, doors, self.about())


class OfTwo(Rule):
    """Any rule about two unlike deeds, kept in the order in which they are told."""

    def __init__(self, one, other):
        if one == other:
            raise NoRule("the two deeds of a rule are the same")
        self.one = one
        self.other = other

    def about(self):
        """Both deeds."""
        return [self.one, self.other]


class Ahead(OfTwo):
    """Later isn't done until first was done once."""

    def __init__(self, first, later):
        OfTwo.__init__(self, first, later)

    def machine(self, deeds):
        """At r1 first was done."""
        doors = [("r0", self.one, "r1"), ("r1", self.one, "r1"), ("r1", self.other, "r1")]
        return Machine(deeds, "r0", ["r0", "r1"], doors)


class Turns(OfTwo):
    """One and other are done by turns, one first."""

    def __init__(self, one, other):
        OfTwo.__init__(self, one, other)

    def machine(self, deeds):
        """At r0 it is one's turn, at r1 other's."""
        doors = [("r0", self.one, "r1"), ("r1", self.other, "r0")]
        return Machine(deeds, "r0", ["r0", "r1"], doors)


class Hold(OfTwo):
    """The deed isn't done twice without other between."""

    def __init__(self, deed, other):
        OfTwo.__init__(self, deed, other)

    def machine(self, deeds):
        """At r1 the deed was done, and other not since."""
        doors = [("r0", self.one, "r1"), ("r0", self.other, "r0"), ("r1", self.other, "r0")]
        return Machine(deeds, "r0", ["r0", "r1"], doors)


class Answer(OfTwo):
    """An end is only where no deed was done since the last other."""

    def __init__(self, deed, other):
        OfTwo.__init__(self, deed, other)

    def machine(self, deeds):
        """At r1 the deed waits for its answer."""
        doors = [("r0", self.one, "r1"), ("r0", self.other, "r0"), ("r1", self.one, "r1"), ("r1", self.other, "r0")]
        return Machine(deeds, "r0", ["r0"], doors)


class All(Rule):
    """At most four rules at once."""

    def __init__(self, rules):
        if len(rules) > MOST_RULES:
            raise TooMany("there are over four rules")
        self.rules = list(rules)
        if self.deep() > MOST_DEEP:
            raise TooMany("rules stand more than three deep in one another")

    def about(self):
        """The deeds of all rules within."""
        deeds = []
        for rule in self.rules:
            deeds.extend(rule.about())
        return deeds

    def deep(self):
        """One more than the deepest rule within."""
        return 1 + max([rule.deep() for rule in self.rules], default=0)

    def machine(self, deeds):
        """The machines of its rules, woven and made one."""
        # A deed that isn't there is refused ahead of too many rooms, wherever in the rules it stands.
        deeds.require(self.about())
        if not self.rules:
            return Machine(deeds, "r0", ["r0"], [])
        return made_one(Woven([rule.machine(deeds) for rule in self.rules]))


class Told(Rule):
    """A rule that is told by a machine itself."""

    def __init__(self, machine):
        self.machine_itself = machine

    def machine(self, deeds):
        """That machine, whatever deeds are handed in."""
        return self.machine_itself


def keeps(rule, deeds, row):
    """Tell whether a row doesn't break a rule."""
    return rule.machine(deeds).behind(row) is not None
