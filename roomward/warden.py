"""The warden: it stands beside a house, lets by what it can, and forbids the rest."""

from roomward.coming import come_to
from roomward.deeds import marks_of
from roomward.errors import NoRoom, NotNow, NoWarden
from roomward.machines import MOST_ROOMS
from roomward.rounds import reasons_of, row_by_reasons


def let_ways(house, reasons, room):
    """The list of pairs of a deed that leads on to a room left and that room, by rising deeds."""
    return [(deed, far) for deed, far in house.ways(room) if far not in reasons]


class Warden:
    """The warden of a house that forbids least; its rooms are numbered from 0 in its order."""

    def __init__(self, house):
        reasons = reasons_of(house)
        begin = house.begin()
        if begin in reasons:
            word, row = row_by_reasons(house, reasons, begin)
            raise NoWarden(word, row)
        self.house_itself = house
        self.reasons = reasons
        self.own_rooms = come_to(begin, lambda room: let_ways(house, reasons, room), MOST_ROOMS)
        # By the rooms' numbers: to which number each deed leads that is let, rising, and what is forbidden.
        self.steps = [self.step_of(room) for room in self.own_rooms]
        self.bans = [self.ban_of(room) for room in self.own_rooms]

    def step_of(self, room):
        """Give each deed that is let at a room, rising, the number of the room behind it."""
        step = {}
        for deed, far in let_ways(self.house_itself, self.reasons, room):
            step[deed] = self.own_rooms.index(far)
        return step

    def ban_of(self, room):
        """The rising list of the deeds that the machines can do at a room and that aren't let there."""
        let = [deed for deed, far in let_ways(self.house_itself, self.reasons, room)]
        return [deed for deed in self.house_itself.can(room) if deed not in let]

    def house(self):
        """The house that it was made of."""
        return self.house_itself

    def begin(self):
        """The room where it stands at first."""
        return self.own_rooms[0]

    def rooms(self):
        """The list of the rooms that are come to by what it lets, in the order of coming."""
        return list(self.own_rooms)

    def number_of(self, room):
        """The number of one of its rooms; refused of what is none of them."""
        if room not in self.own_rooms:
            raise NoRoom("the warden has no such room")
        return self.own_rooms.index(room)

    def is_end_at(self, number):
        """Tell whether the room of a number is an end."""
        return self.house_itself.is_end(self.own_rooms[number])

    def lets_in(self, numbers):
        """The rising list of the deeds that it lets in any room of some numbers."""
        deeds = []
        for number in numbers:
            deeds.extend(list(self.steps[number]))
        return sorted(marks_of(deeds))

    def forbids_in(self, numbers):
        """The rising list of the deeds that it forbids in any room of some numbers."""
        deeds = []
        for number in numbers:
            deeds.extend(self.bans[number])
        return sorted(marks_of(deeds))

    def lets(self, room):
        """The rising list of the deeds that it lets at a room."""
        return self.lets_in([self.number_of(room)])

    def forbids(self, room):
        """The rising list of the deeds that it forbids at a room: the others that the machines can do."""
        return self.forbids_in([self.number_of(room)])

    def to(self, room, deed):
        """The room to which a deed leads that it lets, None where it doesn't let it."""
        number = self.number_of(room)
        self.house_itself.deeds().require([deed])
        if deed not in self.steps[number]:
            return None
        return self.own_rooms[self.steps[number][deed]]

    def why(self, room, deed):
        """The pair of a word and a row: what comes of a deed that it forbids at a room, and nobody can stop."""
        number = self.number_of(room)
        self.house_itself.deeds().require([deed])
        if deed not in self.bans[number]:
            raise NotNow(f"the deed {deed} isn't forbidden there")
        if self.house_itself.breaks(room, deed):
            return ("broken", [deed])
        word, row = row_by_reasons(self.house_itself, self.reasons, self.house_itself.to(room, deed))
        return (word, [deed] + row)

    def behind(self, row):
        """The room to which a row leads that it lets, None where it doesn't let it."""
        self.house_itself.deeds().require(row)
        number = 0
        for deed in row:
            if deed not in self.steps[number]:
                return None
            number = self.steps[number][deed]
        return self.own_rooms[number]


def judge_of(warden):
    """A function of a row: the rising list of the deeds that the warden lets behind it, None where it isn't let."""
    def judge(row):
        room = warden.behind(row)
        return None if room is None else warden.lets(room)
    return judge
