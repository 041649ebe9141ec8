"""Rounds: rooms of a house are taken off where nobody can stop what is not wanted."""

from roomward.coming import ways_to_ends
from roomward.errors import NoRoom


def doors_of(house):
    """Give each room, in the order of coming, its rising list of pairs of a deed and the room behind it.

    These are the deeds that the machines can do; behind one that breaks a rule stands None.
    """
    doors = {}
    for room in house.rooms():
        doors[room] = [(deed, house.to(room, deed)) for deed in house.can(room)]
    return doors


def first_free(pairs, free, gone):
    """The first free deed that breaks a rule or leads to a room that is gone, None without one."""
    for deed, far in pairs:
        if deed in free and (far is None or far in gone):
            return deed
    return None


def taken_now(house, doors, gone):
    """The list of pairs of a room and a reason that a round takes, behind those that are gone."""
    free = house.deeds().free()
    taken = []
    staying = []
    for room in doors:
        if room not in gone:
            deed = first_free(doors[room], free, gone)
            if deed is None:
                staying.append(room)
            else:
                taken.append((room, ("free", deed)))
    ends = [room for room in staying if house.is_end(room)]
    marks = ways_to_ends(staying, doors, ends)
    taken.extend([(room, ("shut",)) for room in staying if room not in marks])
    return taken


def rounds(house):
    """The list of rounds, each the list of pairs of a room and a reason that it takes."""
    doors = doors_of(house)
    told = []
    gone = {}
    taken = taken_now(house, doors, gone)
    while taken:
        told.append(taken)
        gone.update(dict(taken))
        taken = taken_now(house, doors, gone)
    return told


def reasons_of(house):
    """Give each room that was taken off its reason."""
    reasons = {}
    for taken in rounds(house):
        reasons.update(dict(taken))
    return reasons


def left(house):
    """The list of the rooms that no round takes, in the order of coming."""
    reasons = reasons_of(house)
    return [room for room in house.rooms() if room not in reasons]


def row_by_reasons(house, reasons, room):
    """The pair of a word and a row by the reasons' deeds, from a room that has a reason."""
    here = room
    row = []
    while reasons[here] != ("shut",):
        deed = reasons[here][1]
        row.append(deed)
        if house.breaks(here, deed):
            return ("broken", row)
        here = house.to(here, deed)
    return ("shut", row)


def unstopped(house, room):
    """The pair of a word and a row: what nobody can stop from a room that was taken off."""
    reasons = reasons_of(house)
    # The list, not the dict, is asked: what is handed in may be no key of a dict.
    if room not in list(reasons):
        raise NoRoom("no such room was taken off")
    return row_by_reasons(house, reasons, room)
