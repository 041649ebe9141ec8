"""Sides: one to three wardens side by side, each of which sees and holds some deeds alone."""

from roomward.coming import rows_to
from roomward.errors import NoHold, NoHolder, NoRow, TooMany
from roomward.parts import Part, first_letting

MOST_SIDES = 3
MOST_JOINT = 400


class Sides:
    """Wardens side by side: each forbids what it holds and is sure of."""

    def __init__(self, warden, sights):
        if not sights or len(sights) > MOST_SIDES:
            raise TooMany("one to three wardens stand side by side")
        deeds = warden.house().deeds()
        free = deeds.free()
        self.whole = warden
        self.parts = []
        self.held = []
        for seen, held in sights:
            deeds.require(seen)
            deeds.require(held)
            if any([deed in free for deed in held]):
                raise NoHold("a free deed can't be held")
            self.parts.append(Part(warden, seen))
            self.held.append(list(held))
        for deed in deeds.names():
            if deed not in free and not self.holders(deed):
                raise NoHolder(f"nobody holds the deed {deed}")

    def part(self, k):
        """The Part of the k-th sight."""
        return self.parts[k]

    def holders(self, deed):
        """The rising list of the numbers of those who hold a deed."""
        self.whole.house().deeds().require([deed])
        return [k for k, held in enumerate(self.held) if deed in held]

    def forbids(self, k, place):
        """The rising list of the deeds of which the k-th is sure at its place."""
        let = self.whole.lets_in(place)
        return [deed for deed in self.whole.forbids_in(place) if deed in self.held[k] and deed not in let]

    def forbidden(self, places):
        """The list of the deeds that anybody forbids where these are all their places."""
        deeds = []
        for k, place in enumerate(places):
            deeds.extend(self.forbids(k, place))
        return deeds

    def lets(self, row):
        """The rising list of the deeds that can be done behind a row that the whole warden lets."""
        room = self.whole.behind(row)
        if room is None:
            raise NoRow("the whole warden doesn't let this row")
        stopped = self.forbidden([part.place_of(row) for part in self.parts])
        return [deed for deed in self.whole.house().can(room) if deed not in stopped]

    def joint_ways(self, joint):
        """The list of pairs of a deed that the whole warden lets and the joint place behind it, by rising deeds.

        A joint place is the pair of a room's number and the tuple of all their places.
        """
        number, places = joint
        ways = []
        for deed, far in self.whole.steps[number].items():
            fars = [part.goes_on(place, deed) for part, place in zip(self.parts, places)]
            ways.append((deed, (far, tuple(fars))))
        return ways

    def rows_to_joints(self):
        """Give each joint place, in the order of coming, a shortest row that comes to it."""
        begin = (0, tuple([part.begin() for part in self.parts]))
        return rows_to(begin, lambda joint: self.joint_ways(joint), MOST_JOINT)


def lapse(sides):
    """A row, a deed that slips by behind it, and for each holder a row that looks alike behind which it is let."""
    whole = sides.whole
    rows = sides.rows_to_joints()
    for number, places in rows:
        stopped = sides.forbidden(places)
        slips = [deed for deed in whole.bans[number] if deed not in stopped]
        if slips:
            deed = slips[0]
            row = rows[(number, places)]
            others = [sides.part(k).row_like(row, first_letting(whole, places[k], deed)) for k in sides.holders(deed)]
            return (row, deed, others)
    return None
