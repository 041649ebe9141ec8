"""Least machines: rooms of a warden that no row parts are made one."""

from roomward.errors import NoRoom
from roomward.machines import Machine


def kinds_of(marks):
    """Number the marks of a list from 0, as they come first: like ones alike."""
    numbers = {}
    kinds = []
    for mark in marks:
        kinds.append(numbers.setdefault(mark, len(numbers)))
    return kinds


def behind_of(warden, kinds, number, deed):
    """The kind of the room to which a deed leads from a number, None where it isn't let."""
    far = warden.steps[number].get(deed)
    return None if far is None else kinds[far]


def finer(warden, kinds):
    """The kinds of rooms that rows one deed longer tell apart."""
    deeds = warden.house().knows()
    marks = []
    for number, kind in enumerate(kinds):
        behind = [behind_of(warden, kinds, number, deed) for deed in deeds]
        marks.append((kind, tuple(behind)))
    return kinds_of(marks)


def levels_of(warden):
    """The list of kinds of the rooms: the k-th parts what rows of at most k deeds part, the last what any row does."""
    levels = [kinds_of([warden.is_end_at(number) for number in range(len(warden.steps))])]
    kinds = finer(warden, levels[0])
    while kinds != levels[-1]:
        levels.append(kinds)
        kinds = finer(warden, kinds)
    return levels


def classes(warden):
    """The list of classes of alike rooms, each the rising list of their numbers, by their first ones."""
    told = {}
    for number, kind in enumerate(levels_of(warden)[-1]):
        told.setdefault(kind, []).append(number)
    return list(told.values())


def refuse_number(warden, thing):
    """Refuse what isn't the number of a room (Python counts truths as numbers too)."""
    if not isinstance(thing, int) or isinstance(thing, bool) or not 0 <= thing < len(warden.steps):
        raise NoRoom("no room of the warden has such a number")


def first_parting(warden, kinds, one, other):
    """The first deed behind which two rooms are of two kinds, or that just one of them lets."""
    for deed in warden.house().knows():
        if behind_of(warden, kinds, one, deed) != behind_of(warden, kinds, other, deed):
            return deed
    return None


def parted(warden, one, other):
    """Of the shortest rows that part two rooms the least list, None where they are alike."""
    refuse_number(warden, one)
    refuse_number(warden, other)
    levels = levels_of(warden)
    alike = [kinds for kinds in levels if kinds[one] == kinds[other]]
    if len(alike) == len(levels):
        return None
    row = []
    here = one
    there = other
    # As many deeds are needed as levels don't part the two; each deed leads to two that one level less doesn't.
    for kinds in reversed(alike):
        deed = first_parting(warden, kinds, here, there)
        row.append(deed)
        here = warden.steps[here].get(deed)
        there = warden.steps[there].get(deed)
    return row


def least(warden):
    """The machine that has a room for each class of alike rooms, and lets what the warden lets."""
    # Kinds are numbered as they come first, and rooms stand in the order of coming: so kinds do, too.
    names = [f"r{kind}" for kind in levels_of(warden)[-1]]
    ends = [name for number, name in enumerate(names) if warden.is_end_at(number)]
    doors = []
    for alike in classes(warden):
        for deed, far in warden.steps[alike[0]].items():
            doors.append((names[alike[0]], deed, names[far]))
    house = warden.house()
    return Machine(house.deeds(), names[0], ends, doors, house.knows())
