"""The order of coming: how rooms are told that are come to from a begin."""

from roomward.errors import TooMany


def come_to(begin, ways, most):
    """List the rooms that are come to, in the order of coming; refuse more than a number of them.

    Ways is a function of a room: the list of the rooms to which the rising deeds lead from there.
    """
    rooms = [begin]
    marks = {begin: True}
    place = 0
    while place < len(rooms):
        room = rooms[place]
        for far in ways(room):
            if far not in marks:
                marks[far] = True
                rooms.append(far)
        # Asked at every room: there may be far too many to come to them all first.
        if len(rooms) > most:
            raise TooMany(f"over {most} rooms are come to")
        place = place + 1
    return rooms
