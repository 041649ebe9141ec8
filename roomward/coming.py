"""Coming: which rooms are come to from a begin, in which order and by which rows, and from which an end can be."""

from roomward.errors import TooMany


def rows_to(begin, doors, most):
    """Give each room that is come to, in the order of coming, a shortest row that comes to it.

    Doors is a function of a room: the list of pairs of a deed and the room behind it, by rising deeds.
    More rooms than a number of them are refused.
    """
    rows = {begin: []}
    rooms = [begin]
    place = 0
    while place < len(rooms):
        room = rooms[place]
        for deed, far in doors(room):
            if far not in rows:
                rows[far] = rows[room] + [deed]
                rooms.append(far)
        # Asked at every room: there may be far too many to come to them all first.
        if len(rooms) > most:
            raise TooMany(f"over {most} are come to")
        place = place + 1
    return rows


def come_to(begin, doors, most):
    """List the rooms that are come to, in the order of coming; refuse more than a number of them."""
    return list(rows_to(begin, doors, most))


def ways_to_ends(rooms, doors, ends):
    """Mark those of some rooms from which one of the ends, rooms of these, can be come to through these rooms alone.

    Doors is a dict here: it gives each room its list of pairs of a deed and the room behind it.
    """
    nears = {}
    for room in rooms:
        for deed, far in doors[room]:
            nears.setdefault(far, []).append(room)
    marks = {}
    waiting = list(ends)
    while waiting:
        room = waiting.pop()
        if room not in marks:
            marks[room] = True
            waiting.extend(nears.get(room, []))
    return marks
