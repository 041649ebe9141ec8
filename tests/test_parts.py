"""Seen in part: [6.1] to [6.4], and of the whole [0.2] (c), [0.3], [0.4]."""

import itertools
import unittest

from helper import (DEEDS, ODD_TEXTS, ODD_THINGS, RefusalCase, house_of, let_rows, rows_of, some_wardens, two_rings,
                    warden_of)
from roomward.errors import NoDeed, TooMany
from roomward.houses import House
from roomward.parts import Part, dead, dead_way, differs
from roomward.rules import Never
from roomward.warden import Warden

# The rooms are numbered a 0, b 1, c 2; x is shut: so go is let at a and forbidden at b.
DOORS = ["a f1 b", "a go c", "b go x", "b up a", "c up a"]


def some_warden(ends="ac"):
    return warden_of("a", ends, DOORS)


def rings(tail, one, other, more=()):
    """The warden of two rings, as a Part that sees go alone, and up where there is more."""
    return Part(Warden(House(DEEDS, [two_rings(tail, one, other, more)], [])), ["go", "up"] if more else ["go"])


# From t0 something unseen leads to where go is forbidden: at the begin's place go is let at t0 alone.
DIFFERS_AT_ONCE = ("t0 f0 w", "w up t0", "w go x")

# Behind up one may be in v, where go alone leads on, or in w, where go is forbidden: in v it is dead.
DEAD_AT_V = ("t0 f0 s", "t0 up v", "s up w", "v go t1", "w go x", "w up t0")


def shown(part, row):
    return [deed for deed in row if deed in part.seen()]


def numbered(warden):
    return {room: number for number, room in enumerate(warden.rooms())}


class Sight(RefusalCase):
    def test_none_of_the_deeds(self):
        part = Part(some_warden(), [])
        self.assertEqual((part.seen(), part.begin(), part.places()), ([], (0, 1, 2), [(0, 1, 2)]))
        self.assertEqual((part.lets((0, 1, 2)), part.forbids((0, 1, 2))), (["f1", "up"], ["go"]))
        for deed in DEEDS.names():
            self.refused(NoDeed, part.behind, (0, 1, 2), deed)

    def test_all_of_them(self):
        warden = some_warden()
        part = Part(warden, DEEDS.names())
        self.assertEqual(part.seen(), DEEDS.names())
        self.assertEqual(part.places(), [(0,), (1,), (2,)])
        for number, room in enumerate(warden.rooms()):
            self.assertEqual(part.lets((number,)), warden.lets(room))
            self.assertEqual(part.forbids((number,)), warden.forbids(room))

    def test_some_of_them(self):
        part = Part(some_warden(), ["up", "go"])
        self.assertEqual((part.seen(), part.begin(), part.places()), (["go", "up"], (0, 1), [(0, 1), (2,)]))

    def test_one_told_twice(self):
        part = Part(some_warden(), ["up", "go", "up", "up", "go"])
        self.assertEqual((part.seen(), part.places()), (["go", "up"], [(0, 1), (2,)]))

    def test_a_seen_one_that_nobody_knows(self):
        part = Part(some_warden(), ["f2", "go", "bad", "up"])
        self.assertEqual((part.seen(), part.places()), (["bad", "f2", "go", "up"], [(0, 1), (2,)]))
        self.assertIsNone(part.behind((0, 1), "f2"))

    def test_what_is_no_deed(self):
        for thing in ODD_THINGS + ODD_TEXTS + ("nothing", "a"):
            for seen in ([thing], ["go", thing], [thing, "go"], ["up", thing, "go"]):
                self.refused(NoDeed, Part, some_warden(), seen)

    def test_by_the_arguments_names(self):
        part = Part(warden=some_warden(), seen=["go", "up"])
        self.assertEqual(part.behind(place=(0, 1), deed="go"), (2,))
        self.assertEqual((part.lets(place=(2,)), part.forbids(place=(2,)), part.place_of(row=[])), (["up"], [], (0, 1)))
        self.assertEqual(differs(part=part)[2], "go")
        self.assertEqual((dead(part=part), dead_way(part=part)), ([], None))


class Places(RefusalCase):
    def test_behind_a_seen_deed(self):
        part = Part(some_warden(), ["go", "up"])
        self.assertEqual(part.behind((0, 1), "go"), (2,))
        self.assertEqual(part.behind((0, 1), "up"), (0, 1))
        self.assertEqual(part.behind((2,), "up"), (0, 1))

    def test_behind_one_that_is_let_in_none_of_the_rooms(self):
        part = Part(some_warden(), ["go", "up", "bad"])
        self.assertIsNone(part.behind((2,), "go"))
        self.assertIsNone(part.behind((2,), "bad"))
        # At b the machines can do go, but the whole one forbids it.
        self.assertIsNone(Part(some_warden(), ["f1", "go"]).behind((1,), "go"))

    def test_behind_one_that_is_not_seen(self):
        part = Part(some_warden(), ["go", "up"])
        for thing in ODD_THINGS + ODD_TEXTS + ("f1", "bad", "nothing", "a"):
            for place in part.places():
                self.refused(NoDeed, part.behind, place, thing)

    def test_lets_and_forbids_where_rooms_differ(self):
        part = Part(some_warden(), ["go", "up"])
        self.assertEqual((part.lets((0, 1)), part.forbids((0, 1))), (["f1", "up"], ["go"]))
        self.assertEqual((part.lets((2,)), part.forbids((2,))), (["up"], []))

    def test_a_deed_that_all_rooms_forbid(self):
        warden = warden_of("a", "ab", ["a f0 b", "a bad b", "b bad a", "b up a"], [Never("bad")])
        part = Part(warden, ["bad", "up"])
        self.assertEqual(part.places(), [(0, 1)])
        self.assertEqual((part.lets((0, 1)), part.forbids((0, 1))), (["f0", "up"], ["bad"]))
        self.assertIsNone(differs(part))

    def test_rising_tuples_of_numbers(self):
        warden = warden_of("a", "abcdef", ["a go b", "a up c", "b go d", "c f2 b", "c go e", "e f0 a", "d f1 a"])
        self.assertEqual([room[0] for room in warden.rooms()], ["a", "b", "c", "d", "e"])
        part = Part(warden, ["go", "up"])
        self.assertEqual(part.places(), [(0,), (1,), (1, 2), (0, 3), (0, 3, 4)])
        for place in part.places() + [part.begin(), part.behind((0,), "up"), part.place_of(["up", "go"])]:
            self.assertEqual([type(place)] + [type(number) for number in place], [tuple] + [int] * len(place))

    def test_in_the_order_of_coming(self):
        doors = ["a go b", "a bad c", "a f1 d", "d up e", "c bad g", "b go h", "b up i", "c up j"]
        part = Part(warden_of("a", "abcdeghij", doors), ["up", "go", "bad"])
        names = {number: room[0] for room, number in numbered(part.whole).items()}
        told = ["".join(sorted(names[number] for number in place)) for place in part.places()]
        self.assertEqual(told, ["ad", "c", "b", "e", "g", "j", "h", "i"])

    def test_by_deeds_that_it_forbids_itself_too(self):
        # At (0, 1) it forbids go, but behind go one may come to a place all the same.
        part = Part(some_warden(), ["go", "up"])
        self.assertNotIn("go", part.lets((0, 1)))
        self.assertIn((2,), part.places())

    def test_just_two_hundred(self):
        part = rings(4, 13, 15)
        places = part.places()
        self.assertEqual((len(places), len(set(places))), (200, 200))
        self.assertIsNone(differs(part))
        self.assertEqual(places[:2], [(0,), (1,)])
        part = rings(4, 13, 15, DIFFERS_AT_ONCE)
        self.assertEqual(len(part.places()), 200)
        self.assertEqual(differs(part)[2], "go")

    def test_over_two_hundred(self):
        for part in (rings(5, 13, 15), rings(5, 13, 15, DIFFERS_AT_ONCE), rings(0, 29, 30)):
            self.refused(TooMany, part.places)
            self.refused(TooMany, differs, part)
            self.refused(TooMany, part.places)

    def test_a_single_place_is_asked_where_there_are_more(self):
        part = rings(5, 13, 15, DIFFERS_AT_ONCE)
        names = numbered(part.whole)
        begin = tuple(sorted((names[("t0",)], names[("w",)])))
        self.assertEqual((part.begin(), part.lets(begin), part.forbids(begin)), (begin, ["f0", "up"], ["go"]))
        self.assertEqual((part.behind(begin, "go"), part.behind(begin, "up")), ((names[("t1",)],), begin))
        row = ["go"] * 5 + ["f1"] + ["go"] * 150
        place = tuple(sorted((names[("p7",)], names[("q0",)])))
        self.assertEqual(part.place_of(row), place)
        self.assertEqual((part.lets(place), part.forbids(place)), (["go"], []))
        self.assertIsNone(part.place_of(row + ["up"]))
        self.assertEqual((dead(part), dead_way(part)), ([], None))


class PlaceOf(RefusalCase):
    def setUp(self):
        self.part = Part(some_warden(), ["go", "up"])

    def test_rows_that_look_alike(self):
        for row in ([], ["f1"]):
            self.assertEqual(self.part.place_of(row), (0, 1))
        for row in (["f1", "up"], ["go", "up"], ["f1", "up", "f1"], ["f1", "up", "f1", "up"]):
            self.assertEqual(self.part.place_of(row), (0, 1))
        for row in (["go"], ["f1", "up", "go"], ["go", "up", "f1", "up", "go"]):
            self.assertEqual(self.part.place_of(row), (2,))

    def test_a_row_that_is_not_let(self):
        for row in (["f1", "go"], ["up"], ["bad"], ["f1", "f1"], ["go", "go"], ["f2", "go"], ["go", "up", "up", "go"]):
            self.assertIsNone(self.part.place_of(row))

    def test_what_is_no_deed(self):
        for thing in ODD_THINGS + ODD_TEXTS + ("nothing", "a"):
            for row in ([thing], ["go", thing], [thing, "go"], ["f1", "go", thing], ["bad", "bad", thing]):
                self.refused(NoDeed, self.part.place_of, row)

    def test_the_row_stays_as_it_was(self):
        for row in (["f1", "up", "go"], ["f1", "go"]):
            kept = list(row)
            self.part.place_of(row)
            self.assertEqual(row, kept)


class Differs(RefusalCase):
    def shows(self, part, told, deed):
        """Ask that what differs tells are two rows that look alike, with the deed let behind the first one alone."""
        self.assertEqual((type(told), len(told)), (tuple, 3))
        row, other, found = told
        self.assertEqual((type(row), type(other), found), (list, list, deed))
        self.assertEqual(shown(part, row), shown(part, other))
        whole = part.whole
        self.assertIn(deed, whole.lets(whole.behind(row)))
        self.assertIn(deed, whole.forbids(whole.behind(other)))
        return part.place_of(row)

    def test_where_it_does_not(self):
        for seen in (DEEDS.names(), ["f1", "go", "up"], ["f1", "up"]):
            self.assertIsNone(differs(Part(some_warden(), seen)), seen)
        self.assertIsNone(differs(Part(warden_of("a", "a", ["a go a", "a up a"]), [])))

    def test_two_rows_and_a_deed(self):
        part = Part(some_warden(), ["go", "up"])
        self.assertEqual(self.shows(part, differs(part), "go"), (0, 1))
        part = Part(some_warden(), [])
        self.assertEqual(self.shows(part, differs(part), "go"), (0, 1, 2))

    def test_the_first_place_and_the_first_deed(self):
        # The begin's place doesn't differ; behind bad go and up do, behind go bad does, which is less.
        doors = ["a bad b", "a go c", "b f0 d", "b go a", "b up a", "d go x", "d up x", "d bad a", "c f0 e", "c bad a",
                 "e bad x", "e go a"]
        part = Part(warden_of("a", "a", doors), ["bad", "go", "up"])
        place = self.shows(part, differs(part), "go")
        self.assertEqual((place, part.places()[1]), (part.behind((0,), "bad"), place))
        self.assertEqual(part.forbids(place), ["go", "up"])

    def test_rows_that_look_alike_though_several_lead_to_the_place(self):
        # The place behind up is come to behind go and up as well, but then through d.
        doors = ["a go d", "a up b", "b f0 c", "b bad a", "c bad x", "c go a", "d up b"]
        part = Part(warden_of("a", "a", doors), ["go", "up", "bad"])
        self.shows(part, differs(part), "bad")

    def test_behind_long_rows(self):
        # Behind up it is sure to be in the ring of eleven: so there are eleven places more.
        part = rings(23, 11, 15, ("q14 up x", "p10 up p10", "p9 f0 p9"))
        self.assertEqual(len(part.places()), 200)
        place = self.shows(part, differs(part), "up")
        names = numbered(part.whole)
        self.assertEqual(place, tuple(sorted((names[("p10",)], names[("q14",)]))))


class Dead(RefusalCase):
    def test_none(self):
        part = Part(some_warden(), ["go", "up"])
        self.assertEqual((dead(part), dead_way(part)), ([], None))
        part = Part(some_warden("c"), DEEDS.names())
        self.assertEqual((dead(part), dead_way(part)), ([], None))

    def test_from_the_begin(self):
        part = Part(some_warden("c"), ["go", "up"])
        self.assertEqual(dead(part), [(0, (0, 1)), (1, (0, 1))])
        self.assertEqual(dead_way(part), [])

    def test_further_on(self):
        part = Part(warden_of("z", "zc", DOORS + ["z up a"]), ["go", "up"])
        self.assertEqual(dead(part), [(1, (1, 2)), (2, (1, 2))])
        self.assertEqual(dead_way(part), ["up"])

    def test_by_deeds_that_are_not_seen(self):
        # Once f0 came one may be at b, and go is forbidden at the begin's place: in b nothing else leads on.
        part = Part(warden_of("a", "a", ["a f0 b", "a f1 c", "b go a", "c go x", "c up a"]), ["go", "up"])
        self.assertEqual(dead(part), [(1, (0, 1, 2))])
        self.assertEqual(dead_way(part), ["f0"])

    def test_an_end_is_not_dead_though_nothing_leads_on(self):
        part = Part(warden_of("a", "ab", ["a f0 b", "a f1 c", "b go a", "c go x", "c up a"]), ["go", "up"])
        self.assertEqual((dead(part), dead_way(part)), ([], None))

    def test_it_plays_by_what_it_lets_at_the_place_and_the_whole_one_in_the_room(self):
        # At place (0, 1) up is let for the sake of b alone: from a it leads nowhere.
        part = Part(some_warden("c"), ["up"])
        self.assertEqual(part.begin(), (0, 1, 2))
        self.assertEqual(dead(part), [(0, (0, 1, 2)), (1, (0, 1, 2))])

    def test_in_the_order_of_coming(self):
        doors = ["a go b", "a bad c", "a f2 d", "d go e", "d bad g", "d up a", "b bad a", "e bad x", "e up a", "c go a",
                 "g go x", "g up a"]
        part = Part(warden_of("a", "a", doors), ["go", "up", "bad"])
        names = {number: room[0] for room, number in numbered(part.whole).items()}
        self.assertEqual([names[number] for number, place in dead(part)], ["c", "b"])
        self.assertEqual([place for number, place in dead(part)], [part.place_of(["bad"]), part.place_of(["go"])])
        self.assertEqual(dead_way(part), ["bad"])

    def test_kinds(self):
        part = Part(some_warden("c"), ["go", "up"])
        self.assertEqual([type(dead(part)), type(dead(part)[0]), type(dead(part)[0][1]), type(dead_way(part))],
                         [list, tuple, tuple, list])

    def test_just_six_hundred_pairs(self):
        part = rings(3, 11, 27)
        self.assertEqual((dead(part), dead_way(part)), ([], None))
        self.refused(TooMany, part.places)
        part = rings(14, 10, 29, DEAD_AT_V)
        names = numbered(part.whole)
        place = tuple(sorted((names[("v",)], names[("w",)])))
        self.assertEqual((dead(part), dead_way(part)), ([(names[("v",)], place)], ["up"]))
        self.refused(TooMany, part.places)

    def test_over_six_hundred(self):
        for part in (rings(4, 11, 27), rings(15, 10, 29, DEAD_AT_V), rings(0, 29, 30)):
            self.refused(TooMany, dead, part)
            self.refused(TooMany, dead_way, part)

    def test_many_places_and_few_pairs(self):
        part = rings(5, 13, 15, DIFFERS_AT_ONCE)
        self.refused(TooMany, part.places)
        self.assertEqual((dead(part), dead_way(part)), ([], None))


def some_parts():
    """Parts of wardens made up of numbers, each with the whole one's rooms and doors by numbers."""
    for turn, warden in enumerate(some_wardens()):
        names = warden.house().deeds().names()
        sights = [list(seen) for many in range(6) for seen in itertools.combinations(names, many)]
        numbers = numbered(warden)
        doors = {number: {deed: numbers[warden.to(room, deed)] for deed in warden.lets(room)}
                 for room, number in numbers.items()}
        bans = {number: warden.forbids(room) for room, number in numbers.items()}
        for seen in sights[turn % 3::3]:
            yield Part(warden, seen), doors, bans


def spread(part, doors, numbers):
    """The place of some numbers: all to which deeds that aren't seen lead from there."""
    come = set(numbers)
    while True:
        fars = {far for near in come for deed, far in doors[near].items() if deed not in part.seen()}
        if fars <= come:
            return tuple(sorted(come))
        come |= fars


def places_by_words(part, doors):
    """The places in the order of coming, each with a row of seen deeds that comes to it."""
    rows = {spread(part, doors, [0]): []}
    waiting = list(rows)
    while waiting and len(rows) <= 200:
        place = waiting.pop(0)
        for deed in part.seen():
            fars = [doors[number][deed] for number in place if deed in doors[number]]
            far = spread(part, doors, fars)
            if fars and far not in rows:
                rows[far] = rows[place] + [deed]
                waiting.append(far)
    return rows


class ByWords(RefusalCase):
    def test_places(self):
        for part, doors, bans in some_parts():
            places = list(places_by_words(part, doors))
            self.assertEqual(part.begin(), places[0])
            if len(places) > 200:
                self.refused(TooMany, part.places)
                self.refused(TooMany, differs, part)
                continue
            self.assertEqual(part.places(), places)
            for place in places:
                let = {deed for number in place for deed in doors[number]}
                forbidden = {deed for number in place for deed in bans[number]}
                self.assertEqual(part.forbids(place), sorted(forbidden))
                self.assertEqual(part.lets(place), sorted(let - forbidden))
                self.assertFalse(any(part.whole.house().deeds().is_free(deed) for deed in part.forbids(place)))
                for deed in part.seen():
                    fars = [doors[number][deed] for number in place if deed in doors[number]]
                    self.assertEqual(part.behind(place, deed), spread(part, doors, fars) if fars else None)

    def test_place_of(self):
        for part, doors, bans in itertools.islice(some_parts(), 0, None, 9):
            for row in rows_of(part.whole.house().deeds().names(), 4):
                place = spread(part, doors, [0])
                for deed in shown(part, row):
                    place = spread(part, doors, [doors[near][deed] for near in place if deed in doors[near]])
                self.assertEqual(part.place_of(row), None if part.whole.behind(row) is None else place)

    def test_what_may_be_so_by_all_short_rows(self):
        # Of three rooms two deeds come to all that unseen ones lead to: so five are enough about one that is seen.
        tried = 0
        for part, doors, bans in some_parts():
            if len(doors) > 3:
                continue
            numbers, come = numbered(part.whole), {}
            for row in let_rows(part.whole, 5):
                if len(shown(part, row)) <= 1:
                    come.setdefault(tuple(shown(part, row)), []).append(row)
            for rows in come.values():
                place = tuple(sorted({numbers[part.whole.behind(row)] for row in rows}))
                self.assertEqual({part.place_of(row) for row in rows}, {place})
                tried += 1
        self.assertGreater(tried, 200)

    def test_differs(self):
        found = set()
        for part, doors, bans in some_parts():
            rows = places_by_words(part, doors)
            if len(rows) > 200:
                continue
            where = [(place, deed) for place in rows for deed in part.whole.house().deeds().names()
                     if any(deed in doors[number] for number in place) and any(deed in bans[n] for n in place)]
            found.add(bool(where))
            if not where:
                self.assertIsNone(differs(part))
                continue
            row, other, deed = differs(part)
            self.assertEqual((part.place_of(row), deed), where[0])
            self.assertEqual((part.place_of(other), shown(part, row)), (where[0][0], shown(part, other)))
            self.assertIn(deed, part.whole.lets(part.whole.behind(row)))
            self.assertIn(deed, part.whole.forbids(part.whole.behind(other)))
        self.assertEqual(found, {True, False})

    def ways(self, part, doors, pair):
        """The pairs to which it plays, by rising deeds."""
        number, place = pair
        for deed in part.lets(place):
            if deed in doors[number]:
                fars = [doors[near][deed] for near in place if deed in doors[near]]
                yield deed, (doors[number][deed], spread(part, doors, fars) if deed in part.seen() else place)

    def test_dead(self):
        found = set()
        for part, doors, bans in some_parts():
            come = {(0, spread(part, doors, [0])): []}
            waiting = list(come)
            while waiting and len(come) <= 600:
                pair = waiting.pop(0)
                for deed, far in self.ways(part, doors, pair):
                    if far not in come:
                        come[far] = come[pair] + [deed]
                        waiting.append(far)
            if len(come) > 600:
                self.refused(TooMany, dead, part)
                continue
            rooms = part.whole.rooms()
            open_ones = {pair for pair in come if part.whole.house().is_end(rooms[pair[0]])}
            many = -1
            while many != len(open_ones):
                many = len(open_ones)
                open_ones |= {pair for pair in come
                              if any(far in open_ones for deed, far in self.ways(part, doors, pair))}
            closed = [pair for pair in come if pair not in open_ones]
            self.assertEqual(dead(part), closed)
            found.add(min(len(closed), 3))
            row = dead_way(part)
            self.assertEqual(row is None, not closed)
            if closed:
                self.assertEqual(len(row), len(come[closed[0]]))
                pair = (0, part.begin())
                for deed in row:
                    pair = dict(self.ways(part, doors, pair))[deed]
                self.assertEqual(pair, closed[0])
        self.assertEqual(found, {0, 1, 2, 3})


class WhoseLists(RefusalCase):
    def test_lists_told_are_the_askers_own(self):
        part = Part(some_warden("c"), ["go", "up"])
        for ask in (part.seen, part.places, lambda: part.lets((0, 1)), lambda: part.forbids((0, 1)), lambda: dead(part),
                    lambda: differs(part)[0], lambda: differs(part)[1], lambda: dead_way(part)):
            told, kept = ask(), ask()
            self.assertIs(type(told), list)
            told.append("z")
            told[0] = "z"
            self.assertEqual(ask(), kept)
        self.assertEqual((part.begin(), part.behind((0, 1), "go")), ((0, 1), (2,)))

    def test_the_two_rows_are_two_lists(self):
        part = Part(some_warden("c"), ["go", "up"])
        row, other, deed = differs(part)
        kept = list(other)
        row.append("z")
        self.assertEqual(other, kept)

    def test_the_sight_handed_in_may_be_changed_behind(self):
        seen = ["go", "up"]
        part = Part(some_warden(), seen)
        self.assertEqual(seen, ["go", "up"])
        seen[0] = "f1"
        seen.append("bad")
        self.assertEqual((part.seen(), part.places()), (["go", "up"], [(0, 1), (2,)]))
        seen.clear()
        self.assertEqual(part.behind((0, 1), "go"), (2,))
        self.assertEqual(part.place_of(["f1"]), (0, 1))

    def test_the_warden_stays_as_it_was(self):
        warden = some_warden()
        rooms = warden.rooms()
        one, other = Part(warden, ["go", "up"]), Part(warden, ["f1"])
        differs(one), dead(one), dead_way(one), one.places(), other.places()
        self.refused(NoDeed, one.behind, (0, 1), "f1")
        self.assertEqual(warden.rooms(), rooms)
        self.assertEqual([warden.lets(room) for room in rooms], [["f1", "go"], ["up"], ["up"]])
        self.assertEqual((one.begin(), other.begin()), ((0, 1), (0, 2)))

    def test_what_is_refused_changes_nothing(self):
        part = Part(some_warden(), ["go", "up"])
        self.refused(NoDeed, part.behind, (0, 1), "f1")
        self.refused(NoDeed, part.place_of, ["go", "nothing"])
        self.assertEqual((part.seen(), part.places()), (["go", "up"], [(0, 1), (2,)]))
        house = house_of("a", "ac", DOORS)
        self.refused(NoDeed, Part, Warden(house), ["nothing"])
        self.assertEqual(len(house.rooms()), 4)


if __name__ == "__main__":
    unittest.main()
