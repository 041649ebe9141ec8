"""Woven machines: what several of them do together, and the one machine that does the same."""

from roomward.coming import come_to
from roomward.deeds import marks_of
from roomward.errors import TooMany
from roomward.machines import MOST_ROOMS, Machine

MOST_WOVEN = 7


def begin_of(machines):
    """The tuple of the rooms where machines stand at first."""
    return tuple([machine.begin() for machine in machines])


def far_of(machines, room, deed):
    """The tuple of rooms behind a deed, None where a machine that knows it has no door for it."""
    parts = [machine.goes(part, deed) for machine, part in zip(machines, room)]
    return None if None in parts else tuple(parts)


def all_at_ends(machines, room):
    """Tell whether all machines are at ends in a tuple of rooms."""
    return all([machine.is_end(part) for machine, part in zip(machines, room)])


def known_of(machines):
    """Mark the deeds that one of the machines knows."""
    known = []
    for machine in machines:
        known.extend(machine.knows())
    return marks_of(known)


class Woven:
    """One to seven machines of the same deeds: who knows a deed does it with all others who do."""

    def __init__(self, machines):
        if not machines or len(machines) > MOST_WOVEN:
            raise TooMany("one to seven machines can be woven")
        self.machines = list(machines)
        self.known_marks = known_of(machines)

    def deeds(self):
        """The Deeds that its machines were made of."""
        return self.machines[0].deeds()

    def begin(self):
        """The tuple of the machines' begins."""
        return begin_of(self.machines)

    def knows(self):
        """The rising list of the deeds that one of the machines knows."""
        return sorted(self.known_marks)

    def at(self, room):
        """The rising list of the deeds that can be done at a room."""
        return [deed for deed in self.knows() if self.to(room, deed) is not None]

    def to(self, room, deed):
        """The room to which a deed leads, None where it can't be done."""
        self.deeds().require([deed])
        # All machines would stay where they are, but what nobody knows is never done.
        if deed not in self.known_marks:
            return None
        return far_of(self.machines, room, deed)

    def is_end(self, room):
        """Tell whether all machines are at ends."""
        return all_at_ends(self.machines, room)

    def ways(self, room):
        """The list of pairs of a deed that can be done at a room and the room behind it, by rising deeds."""
        return [(deed, self.to(room, deed)) for deed in self.at(room)]

    def rooms(self):
        """The list of the rooms that are come to, in the order of coming."""
        return come_to(self.begin(), lambda room: self.ways(room), MOST_ROOMS)


def made_one(woven):
    """Make one machine of woven ones: its rooms are called r0, r1 .. in the order of coming."""
    names = {}
    for place, room in enumerate(woven.rooms()):
        names[room] = f"r{place}"
    doors = []
    for room in names:
        for deed, far in woven.ways(room):
            doors.append((names[room], deed, names[far]))
    ends = [names[room] for room in names if woven.is_end(room)]
    return Machine(woven.deeds(), names[woven.begin()], ends, doors, woven.knows())
