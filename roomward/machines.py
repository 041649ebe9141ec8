"""Machines: rooms, and doors by which deeds lead from room to room."""

from roomward.deeds import is_name, marks_of
from roomward.errors import NoName, NoRoom, TooMany, TwiceTold

MOST_ROOMS = 60


def named_rooms(begin, ends, doors):
    """List the rooms that a begin, ends and doors name, as often as they do."""
    rooms = [begin]
    rooms.extend(ends)
    for room, deed, far in doors:
        rooms.append(room)
        rooms.append(far)
    return rooms


def refuse_rooms(rooms):
    """Refuse a list where any room's name is none."""
    for room in rooms:
        if not is_name(room):
            raise NoName("a room's name is none")


def leads_of(rooms, doors):
    """Give each room the dict of the rooms to which deeds lead from there."""
    leads = {}
    for room in rooms:
        leads[room] = {}
    for room, deed, far in doors:
        if deed in leads[room]:
            raise TwiceTold(f"two doors are of the room {room} and the deed {deed}")
        leads[room][deed] = far
    return leads


class Machine:
    """Rooms, one of them the begin and some of them ends, and the doors between them."""

    def __init__(self, deeds, begin, ends, doors, more=None):
        rooms = named_rooms(begin, ends, doors)
        refuse_rooms(rooms)
        known = [deed for room, deed, far in doors]
        if more is not None:
            known.extend(more)
        deeds.require(known)
        self.leads = leads_of(rooms, doors)
        if len(self.leads) > MOST_ROOMS:
            raise TooMany("there are over sixty rooms")
        self.deeds_made_of = deeds
        self.first_room = begin
        self.end_marks = marks_of(ends)
        self.known_marks = marks_of(known)

    def deeds(self):
        """The Deeds that it was made of."""
        return self.deeds_made_of

    def begin(self):
        """The room where it stands at first."""
        return self.first_room

    def rooms(self):
        """The rising list of its rooms."""
        return sorted(self.leads)

    def ends(self):
        """The rising list of its ends."""
        return sorted(self.end_marks)

    def knows(self):
        """The rising list of the deeds that it knows."""
        return sorted(self.known_marks)

    def require_room(self, room):
        """Refuse what is none of its rooms."""
        if not is_name(room) or room not in self.leads:
            raise NoRoom("the machine has no such room")

    def at(self, room):
        """The rising list of the deeds of doors at a room."""
        self.require_room(room)
        return sorted(self.leads[room])

    def to(self, room, deed):
        """The room to which the door of a room and a deed leads, None without one."""
        self.require_room(room)
        self.deeds_made_of.require([deed])
        return self.leads[room].get(deed)

    def is_end(self, room):
        """Tell whether a room is an end."""
        self.require_room(room)
        return room in self.end_marks

    def goes(self, room, deed):
        """The room where it stands behind a deed, None where it can't be done."""
        if deed in self.known_marks:
            return self.leads[room].get(deed)
        return room

    def behind(self, row):
        """The room to which it goes along a row from its begin, None where a deed can't be done."""
        self.deeds_made_of.require(row)
        room = self.first_room
        for deed in row:
            room = self.goes(room, deed)
            if room is None:
                return None
        return room
