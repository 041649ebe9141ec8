"""Parts: wardens that see some of the deeds alone, and treat alike what looks alike to them."""

from roomward.coming import come_to, rows_to, ways_to_ends
from roomward.deeds import marks_of
from roomward.errors import NoDeed
from roomward.machines import MOST_ROOMS

MOST_PLACES = 200
MOST_PAIRS = 600


def bits_of(numbers):
    """Tell a list of numbers by bits."""
    bits = 0
    for number in numbers:
        bits = bits | (1 << number)
    return bits


def numbers_of(bits):
    """The rising tuple of the numbers that bits tell."""
    return tuple([number for number in range(bits.bit_length()) if (bits >> number) & 1 == 1])


class Part:
    """A warden that sees some deeds alone; a place is the rising tuple of the numbers of rooms that may be so."""

    def __init__(self, warden, seen):
        warden.house().deeds().require(seen)
        self.whole = warden
        self.seen_deeds = sorted(marks_of(seen))
        # By the rooms' numbers: the bits of all rooms to which unseen deeds lead from there.
        self.reach = [bits_of(come_to(number, lambda near: self.unseen_ways(near), MOST_ROOMS))
                      for number in range(len(warden.steps))]

    def seen(self):
        """The rising list of the deeds that it sees."""
        return list(self.seen_deeds)

    def is_seen(self, deed):
        """Tell of anything whether it is a deed that it sees."""
        return deed in self.seen_deeds

    def unseen_ways(self, number):
        """The list of pairs of a deed that is let and isn't seen and the number behind it, by rising deeds."""
        return [(deed, far) for deed, far in self.whole.steps[number].items() if not self.is_seen(deed)]

    def begin(self):
        """The place behind no deed."""
        return numbers_of(self.reach[0])

    def behind(self, place, deed):
        """The place behind a seen deed, None where the whole one lets it in none of the place's rooms."""
        if not self.is_seen(deed):
            raise NoDeed("no such deed is seen")
        bits = 0
        for number in place:
            if deed in self.whole.steps[number]:
                bits = bits | self.reach[self.whole.steps[number][deed]]
        return None if bits == 0 else numbers_of(bits)

    def goes_on(self, place, deed):
        """The place behind any deed that the whole one lets in one of a place's rooms."""
        return self.behind(place, deed) if self.is_seen(deed) else place

    def lets(self, place):
        """The rising list of the deeds that it lets at a place."""
        forbidden = self.forbids(place)
        return [deed for deed in self.whole.lets_in(place) if deed not in forbidden]

    def forbids(self, place):
        """The rising list of the deeds that it forbids at a place."""
        return self.whole.forbids_in(place)

    def seen_ways(self, place):
        """The list of pairs of a seen deed that is let in a place's room and the place behind it, by rising deeds."""
        return [(deed, self.behind(place, deed)) for deed in self.whole.lets_in(place) if self.is_seen(deed)]

    def rows_to_places(self):
        """Give each place, in the order of coming, a row of seen deeds that comes to it."""
        return rows_to(self.begin(), lambda place: self.seen_ways(place), MOST_PLACES)

    def places(self):
        """The list of the places, in the order of coming."""
        return list(self.rows_to_places())

    def place_of(self, row):
        """The place behind a row that the whole one lets, None of another one."""
        if self.whole.behind(row) is None:
            return None
        place = self.begin()
        for deed in row:
            place = self.goes_on(place, deed)
        return place

    def like_ways(self, shown, stand):
        """The list of pairs of a deed and the stand behind it along a list of seen deeds, by rising deeds.

        A stand is the pair of how many of these were done and a room's number.
        """
        done, number = stand
        ways = []
        for deed, far in self.whole.steps[number].items():
            if not self.is_seen(deed):
                ways.append((deed, (done, far)))
            elif done < len(shown) and deed == shown[done]:
                ways.append((deed, (done + 1, far)))
        return ways

    def row_like(self, row, number):
        """A row that looks like a row and comes to a number of the place behind it."""
        shown = [deed for deed in row if self.is_seen(deed)]
        rows = rows_to((0, 0), lambda stand: self.like_ways(shown, stand), (len(shown) + 1) * MOST_ROOMS)
        return rows[(len(shown), number)]

    def pair_ways(self, pair):
        """The list of pairs of a deed and the number and place to which it leads when this one plays, rising."""
        number, place = pair
        step = self.whole.steps[number]
        return [(deed, (step[deed], self.goes_on(place, deed))) for deed in self.lets(place) if deed in step]

    def rows_to_pairs(self):
        """Give each pair of a number and a place that it plays to, in the order of coming, a shortest row there."""
        return rows_to((0, self.begin()), lambda pair: self.pair_ways(pair), MOST_PAIRS)


def first_letting(warden, place, deed):
    """The first number of a place in whose room the whole warden lets a deed."""
    return min([number for number in place if deed in warden.steps[number]])


def first_forbidding(warden, place, deed):
    """The first number of a place in whose room the whole warden forbids a deed."""
    return min([number for number in place if deed in warden.bans[number]])


def differs(part):
    """The triple of two rows that look alike and a deed that the whole one lets behind the first one alone, or None."""
    whole = part.whole
    rows = part.rows_to_places()
    for place in rows:
        let = whole.lets_in(place)
        both = [deed for deed in part.forbids(place) if deed in let]
        if both:
            row = part.row_like(rows[place], first_letting(whole, place, both[0]))
            other = part.row_like(rows[place], first_forbidding(whole, place, both[0]))
            return (row, other, both[0])
    return None


def dead_of(part, pairs):
    """The list of those pairs, all that it plays to, from which no end can be come to."""
    doors = {}
    for pair in pairs:
        doors[pair] = part.pair_ways(pair)
    ends = [(number, place) for number, place in pairs if part.whole.is_end_at(number)]
    marks = ways_to_ends(pairs, doors, ends)
    return [pair for pair in pairs if pair not in marks]


def dead(part):
    """The list of the dead pairs that are come to, in the order of coming."""
    return dead_of(part, list(part.rows_to_pairs()))


def dead_way(part):
    """A shortest row by which it comes to the first dead pair, None without any."""
    rows = part.rows_to_pairs()
    pairs = dead_of(part, list(rows))
    return rows[pairs[0]] if pairs else None
