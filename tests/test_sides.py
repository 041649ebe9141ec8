"""Side by side: [7.1] to [7.3], and of the whole [0.2] (d), [0.3], [0.4]."""

import unittest

from helper import DEEDS, ODD_TEXTS, ODD_THINGS, RefusalCase, let_rows, some_wardens, two_rings, warden_of
from roomward.errors import NoDeed, NoHold, NoHolder, NoRow, TooMany
from roomward.houses import House
from roomward.machines import Machine
from roomward.parts import Part
from roomward.rules import Never
from roomward.sides import Sides, lapse
from roomward.warden import Warden

HELD = ["bad", "go", "up"]


def some_warden():
    """The rooms are numbered a 0, b 1, c 2; x is shut: so go is let at a and forbidden at b."""
    return warden_of("a", "ac", ["a f1 b", "a go c", "b go x", "b up a", "c up a"])


def rings(tail, one, other, more=()):
    """Of two rings one who sees go and up and holds all."""
    return Sides(Warden(House(DEEDS, [two_rings(tail, one, other, more)], [])), [(["go", "up"], HELD)])


class Made(RefusalCase):
    def test_of_one_sight(self):
        sides = Sides(some_warden(), [(["go", "f1"], HELD)])
        self.assertEqual(sides.part(0).seen(), ["f1", "go"])
        self.assertEqual([sides.holders(deed) for deed in HELD], [[0], [0], [0]])

    def test_of_three_sights(self):
        sides = Sides(some_warden(), [(["go"], ["up", "go"]), ([], ["go"]), (DEEDS.names(), ["bad", "go", "up"])])
        self.assertEqual([sides.part(k).seen() for k in range(3)], [["go"], [], DEEDS.names()])
        self.assertEqual([sides.holders(deed) for deed in HELD], [[2], [0, 1, 2], [0, 2]])

    def test_parts(self):
        warden = some_warden()
        sides = Sides(warden, [(["go", "up"], HELD), (["f1"], [])])
        for k, seen in enumerate((["go", "up"], ["f1"])):
            part = sides.part(k)
            self.assertIsInstance(part, Part)
            self.assertEqual((part.seen(), part.places()), (seen, Part(warden, seen).places()))

    def test_deeds_told_twice(self):
        sides = Sides(some_warden(), [(["go", "up", "go"], ["go", "bad", "go", "bad"]), ([], ["up", "up", "go", "up"])])
        self.assertEqual(sides.part(0).seen(), ["go", "up"])
        self.assertEqual([sides.holders(deed) for deed in HELD], [[0], [0, 1], [1]])
        self.assertEqual(sides.lets(["go"]), ["up"])

    def test_one_who_sees_and_holds_nothing(self):
        sides = Sides(some_warden(), [([], []), (DEEDS.names(), HELD)])
        self.assertEqual((sides.part(0).seen(), sides.holders("go"), sides.forbids(0, (0, 1, 2))), ([], [1], []))

    def test_by_the_arguments_names(self):
        sides = Sides(warden=some_warden(), sights=[(["f1", "up"], HELD)])
        self.assertEqual((sides.part(k=0).seen(), sides.holders(deed="go")), (["f1", "up"], [0]))
        self.assertEqual((sides.forbids(k=0, place=(1,)), sides.lets(row=["f1"])), (["go"], ["up"]))
        self.assertIsNone(lapse(sides=sides))

    def test_none_and_four(self):
        for sight in ((["go"], HELD), ([], []), (["nothing"], ["f1"])):
            self.refused(TooMany, Sides, some_warden(), [])
            self.refused(TooMany, Sides, some_warden(), [sight] * 4)
            self.refused(TooMany, Sides, some_warden(), [sight] * 9)

    def test_what_is_no_deed(self):
        good = (["go"], HELD)
        for thing in ODD_THINGS + ODD_TEXTS + ("nothing", "a"):
            for sight in (([thing], HELD), (["go", thing], HELD), (["go"], HELD + [thing]), ([], [thing]),
                          ([], [thing] + HELD)):
                self.refused(NoDeed, Sides, some_warden(), [sight])
                self.refused(NoDeed, Sides, some_warden(), [good, sight])
                self.refused(NoDeed, Sides, some_warden(), [good, good, sight])
                self.refused(NoDeed, Sides, some_warden(), [sight, good])

    def test_a_free_one_that_is_held(self):
        for held in (["f1"], ["f0", "go"], HELD + ["f2"], ["go", "f1", "up", "bad"]):
            self.refused(NoHold, Sides, some_warden(), [(["go"], held)])
            self.refused(NoHold, Sides, some_warden(), [([], HELD), (["f1"], held)])
        # What is seen may be free.
        self.assertEqual(Sides(some_warden(), [(["f0", "f1", "f2"], HELD)]).part(0).seen(), ["f0", "f1", "f2"])

    def test_a_deed_that_nobody_holds(self):
        for sights in ([([], [])], [([], ["go", "up"])], [([], ["bad", "go"]), ([], ["go"])],
                       [(DEEDS.names(), ["up", "bad"])], [([], ["bad"]), ([], ["up"]), (["go"], [])]):
            self.refused(NoHolder, Sides, some_warden(), sights)
        self.assertEqual(Sides(some_warden(), [([], ["bad"]), ([], ["up"]), ([], ["go"])]).holders("go"), [2])

    def test_which_refusal_comes(self):
        lost, free, good, idle = (["nothing"], HELD), ([], ["f1"]), (["go"], HELD), ([], [])
        for kind, sights in ((NoDeed, [(["nothing"], ["f1"])]), (NoDeed, [([], ["f1", "nothing"])]),
                             (NoDeed, [lost, free]), (NoHold, [free, lost]), (NoHold, [good, free, lost]),
                             (NoDeed, [good, lost, free]), (NoHold, [free]), (NoHold, [idle, free]),
                             (NoDeed, [idle, (["nothing"], [])]), (NoHold, [([], ["f1"]), ([], ["nothing"])]),
                             (NoHolder, [idle]), (NoHolder, [idle, ([], ["go"])])):
            self.refused(kind, Sides, some_warden(), sights)


class WhoIsSure(RefusalCase):
    def test_holders(self):
        sides = Sides(some_warden(), [([], ["go"]), (["f0", "f1"], ["up"]), ([], HELD)])
        self.assertEqual([sides.holders(deed) for deed in ("f0", "f1", "f2")], [[], [], []])
        self.assertEqual([sides.holders(deed) for deed in HELD], [[2], [0, 2], [1, 2]])
        for thing in ODD_THINGS + ODD_TEXTS + ("nothing", "a"):
            self.refused(NoDeed, sides.holders, thing)

    def test_sure_where_all_rooms_forbid(self):
        sides = Sides(some_warden(), [(["f1", "up"], HELD)])
        self.assertEqual(sides.part(0).places(), [(0, 2), (1,)])
        self.assertEqual((sides.forbids(0, (1,)), sides.forbids(0, (0, 2))), (["go"], []))

    def test_not_where_one_room_lets(self):
        sides = Sides(some_warden(), [(["go", "up"], HELD)])
        self.assertEqual((sides.forbids(0, (0, 1)), sides.part(0).forbids((0, 1))), ([], ["go"]))

    def test_sure_where_it_can_not_be_done_in_the_other_rooms(self):
        warden = warden_of("a", "ab", ["a f1 b", "a go x", "b up a"])
        sides = Sides(warden, [(["up"], HELD)])
        self.assertEqual(sides.part(0).begin(), (0, 1))
        self.assertEqual(sides.forbids(0, (0, 1)), ["go"])

    def test_of_what_it_holds_alone(self):
        doors = ["a bad a", "a go a", "a up a", "a f0 a"]
        warden = warden_of("a", "a", doors, [Never("up"), Never("go"), Never("bad")])
        sides = Sides(warden, [([], ["up", "bad"]), ([], ["go", "bad"]), ([], [])])
        self.assertEqual([sides.forbids(k, (0,)) for k in range(3)], [["bad", "up"], ["bad", "go"], []])
        self.assertEqual(sides.lets([]), ["f0"])

    def test_each_at_its_own_place(self):
        sides = Sides(some_warden(), [(["go", "up"], HELD), (["f1", "up"], ["go"])])
        self.assertEqual((sides.forbids(0, (0, 1)), sides.forbids(1, (1,))), ([], ["go"]))
        self.assertEqual(sides.lets(["f1"]), ["up"])
        self.assertIsNone(lapse(sides))


class WhatTheyLet(RefusalCase):
    def test_what_nobody_forbids(self):
        sure = Sides(some_warden(), [(["f1", "up"], HELD)])
        unsure = Sides(some_warden(), [(["go", "up"], HELD)])
        for row, by_sure, by_unsure in (([], ["f1", "go"], ["f1", "go"]), (["f1"], ["up"], ["go", "up"]),
                                        (["go"], ["up"], ["up"]), (["f1", "up", "f1"], ["up"], ["go", "up"])):
            self.assertEqual((sure.lets(row), unsure.lets(row)), (by_sure, by_unsure))

    def test_what_the_machines_can_do_alone(self):
        # Nobody forbids bad, but it can't be done.
        sides = Sides(some_warden(), [([], HELD)])
        self.assertEqual(sides.lets([]), ["f1", "go"])

    def test_a_row_that_the_whole_one_does_not_let(self):
        sides = Sides(some_warden(), [(["go", "up"], HELD)])
        for row in (["f1", "go"], ["bad"], ["up"], ["f2"], ["go", "go"], ["f1", "go", "up"]):
            self.refused(NoRow, sides.lets, row)

    def test_what_is_no_deed_ahead_of_it(self):
        sides = Sides(some_warden(), [(["go", "up"], HELD)])
        for thing in ODD_THINGS + ODD_TEXTS + ("nothing", "a"):
            for row in ([thing], ["go", thing], [thing, "go"], ["bad", thing], ["f1", "go", "up", thing]):
                self.refused(NoDeed, sides.lets, row)

    def test_the_row_stays_as_it_was(self):
        row = ["f1", "up", "go"]
        Sides(some_warden(), [(["go", "up"], HELD)]).lets(row)
        self.assertEqual(row, ["f1", "up", "go"])


class LapseCase(RefusalCase):
    """A test case that can look at what lapse tells."""

    def shows(self, sides, warden, told):
        """Ask that what lapse tells shows what it should; tell the row and the deed."""
        self.assertEqual((type(told), len(told)), (tuple, 3))
        row, deed, others = told
        self.assertEqual([type(row), type(others)], [list, list])
        self.assertIn(deed, warden.forbids(warden.behind(row)))
        self.assertIn(deed, sides.lets(row))
        holders = sides.holders(deed)
        self.assertEqual(len(others), len(holders))
        for k, other in zip(holders, others):
            seen = sides.part(k).seen()
            self.assertIs(type(other), list)
            self.assertEqual([one for one in other if one in seen], [one for one in row if one in seen])
            self.assertIn(deed, warden.lets(warden.behind(other)))
        return row, deed


class Lapse(LapseCase):
    def told(self, warden, sights, row, deed):
        """Ask for just this row and deed."""
        sides = Sides(warden, sights)
        self.assertEqual(self.shows(sides, warden, lapse(sides)), (row, deed))

    def test_none(self):
        for sights in ([(DEEDS.names(), HELD)], [(["f1", "up"], HELD)], [(["f1", "up"], ["go"]), ([], ["bad", "up"])],
                       [([], HELD), ([], HELD), (["f1", "up"], ["go"])]):
            self.assertIsNone(lapse(Sides(some_warden(), sights)))
        self.assertIsNone(lapse(Sides(warden_of("a", "a", ["a go a"]), [([], HELD)])))

    def test_one(self):
        self.told(some_warden(), [(["go", "up"], HELD)], ["f1"], "go")
        self.told(some_warden(), [([], HELD)], ["f1"], "go")

    def test_who_could_see_does_not_hold(self):
        self.told(some_warden(), [(DEEDS.names(), ["bad", "up"]), (["go", "up"], ["go"])], ["f1"], "go")

    def test_several_holders(self):
        sides = Sides(some_warden(), [(["go", "up"], ["go", "bad"]), (DEEDS.names(), ["up"]), (["up"], ["go"])])
        told = lapse(sides)
        self.assertEqual(self.shows(sides, some_warden(), told), (["f1"], "go"))
        self.assertEqual(len(told[2]), 2)

    def test_one_holder_who_is_sure_is_enough(self):
        self.assertIsNone(lapse(Sides(some_warden(), [(["go", "up"], HELD), ([], HELD), (["f1", "up"], ["go"])])))

    def test_a_shortest_row_and_its_first_deed(self):
        # At the begin all are sure; behind f0 up and go slip by, and bad behind a longer row.
        doors = ["a f0 b", "a f1 c", "b go x", "b up x", "b f2 d", "b bad a", "c go a", "c up a", "c bad d", "d bad x",
                 "d go a"]
        warden = warden_of("a", "a", doors)
        self.told(warden, [(["bad", "go", "up"], HELD)], ["f0"], "go")
        self.told(warden, [(["bad", "go", "up"], ["go"]), (["bad", "f0", "f2", "go"], ["up", "bad"])], ["f0"], "go")
        self.told(warden, [(["bad", "f0", "f2", "go", "up"], ["go", "up"]), (["up"], ["bad"])], ["f0", "f2"], "bad")

    def test_at_the_begin(self):
        # Behind f0 bad is let: who doesn't see f0 is never sure that it isn't.
        self.told(warden_of("a", "ab", ["a bad x", "a f0 b", "b bad b"]), [(["bad"], HELD)], [], "bad")

    def test_just_four_hundred_joint_places(self):
        self.assertIsNone(lapse(rings(7, 13, 15)))
        sides = rings(6, 13, 15, ("t0 f0 w", "w up t0", "w go x"))
        self.assertEqual(self.shows(sides, sides.whole, lapse(sides)), (["f0"], "go"))
        sides = rings(6, 13, 15, ("t0 f0 w", "w f2 t0", "q14 bad x", "p12 bad p12"))
        row, deed = self.shows(sides, sides.whole, lapse(sides))
        self.assertEqual((len(row), deed), (6 + 1 + 194, "bad"))

    def test_over_four_hundred_ahead_of_all(self):
        for sides in (rings(8, 13, 15), rings(7, 13, 15, ("t0 f0 w", "w up t0", "w go x"))):
            self.refused(TooMany, lapse, sides)
            self.refused(TooMany, lapse, sides)
            self.assertEqual(sides.lets([])[-1], "go")

    def test_all_their_places_count(self):
        # One sees the first machine's turns, the other the second one's: both together come to 15 times 27.
        one, other = two_rings(0, 2, 3), two_rings(0, 3, 4)
        called = {"go": "up", "f1": "f0", "f2": "bad"}
        doors = [(room, called[deed], other.to(room, deed)) for room in other.rooms() for deed in other.at(room)]
        warden = Warden(House(DEEDS, [one, Machine(DEEDS, "b", other.rooms(), doors)], []))
        self.assertIsNone(lapse(Sides(warden, [(["go"], HELD)])))
        self.assertIsNone(lapse(Sides(warden, [(["up"], HELD)])))
        self.assertIsNone(lapse(Sides(warden, [(["up"], HELD), (["up"], HELD), ([], HELD)])))
        self.refused(TooMany, lapse, Sides(warden, [(["go"], HELD), (["up"], HELD)]))


def joints_by_words(warden, sides, many):
    """The joint places, in the order of coming, each with a row that comes to it."""
    parts = [sides.part(k) for k in range(many)]
    rows = {(warden.begin(),) + tuple(part.begin() for part in parts): []}
    waiting = list(rows)
    while waiting and len(rows) <= 400:
        row = rows[waiting.pop(0)]
        for deed in warden.lets(warden.behind(row)):
            far = (warden.behind(row + [deed]),) + tuple(part.place_of(row + [deed]) for part in parts)
            if far not in rows:
                rows[far] = row + [deed]
                waiting.append(far)
    return rows


def slips_by_words(warden, sides, row):
    """The deeds that the whole one forbids behind a row and of which no holder is sure."""
    rooms = warden.rooms()
    slips = []
    for deed in warden.forbids(warden.behind(row)):
        places = [sides.part(k).place_of(row) for k in sides.holders(deed)]
        if all(any(deed in warden.lets(rooms[number]) for number in place) for place in places):
            slips.append(deed)
    return slips


class ByWords(LapseCase):
    def some_sides(self):
        """Wardens side by side, made up of numbers."""
        kinds = ([(["go", "up"], ["bad", "go", "in", "up"])], [([], ["bad", "go"]), (["f0", "go"], ["go", "in", "up"])],
                 [(["bad"], ["bad", "go"]), (["f0", "up"], ["in", "up", "go"])],
                 [(["in", "up"], ["bad", "up"]), (["bad", "go"], ["go"]), (["f0"], ["in", "up", "bad"])],
                 [(["bad", "f0", "go", "in"], ["bad", "go", "in"]), (["up"], ["up", "in"])],
                 [(["f0", "go"], ["bad", "up"]), (["bad", "f0", "in", "up"], ["go", "in"])])
        for turn, warden in enumerate(some_wardens()):
            for sights in (kinds[turn % 6], kinds[(turn + 1) % 6], kinds[(turn + 3) % 6]):
                yield warden, Sides(warden, sights), len(sights)

    def test_lapse(self):
        found = set()
        for warden, sides, many in self.some_sides():
            rows = joints_by_words(warden, sides, many)
            if len(rows) > 400:
                self.refused(TooMany, lapse, sides)
                continue
            slipping = [row for row in rows.values() if slips_by_words(warden, sides, row)]
            told = lapse(sides)
            self.assertEqual(told is None, not slipping)
            found.add(len(slipping[0]) if slipping else None)
            if slipping:
                row, deed = self.shows(sides, warden, told)
                self.assertEqual(len(row), len(slipping[0]))
                self.assertEqual(deed, slips_by_words(warden, sides, row)[0])
        self.assertTrue({None, 0, 1, 2, 3} <= found)

    def test_they_let_each_row_of_the_whole_one_and_just_these_without_a_lapse(self):
        for warden, sides, many in list(self.some_sides())[::2]:
            try:
                good = lapse(sides) is None
            except TooMany:
                continue
            for row in let_rows(warden, 3):
                let = warden.lets(warden.behind(row))
                self.assertEqual(set(let) - set(sides.lets(row)), set())
                self.assertEqual(sorted(let + slips_by_words(warden, sides, row)), sides.lets(row))
                if good:
                    self.assertEqual(sides.lets(row), let)


class WhoseLists(RefusalCase):
    def test_lists_told_are_the_askers_own(self):
        sides = Sides(some_warden(), [(["go", "up"], HELD), (["f1", "up"], ["bad"])])
        for ask in (lambda: sides.holders("bad"), lambda: sides.lets(["f1"]), lambda: lapse(sides)[0],
                    lambda: lapse(sides)[2], lambda: sides.part(0).seen()):
            told, kept = ask(), ask()
            self.assertIs(type(told), list)
            told.append("z")
            told[0] = "z"
            self.assertEqual(ask(), kept)
        lapse(sides)[2][0].append("z")
        self.assertEqual(lapse(sides), (["f1"], "go", [[]]))
        sure = Sides(some_warden(), [(["f1", "up"], HELD)])
        sure.forbids(0, (1,)).append("z")
        self.assertEqual((sure.forbids(0, (1,)), sure.lets(["f1"])), (["go"], ["up"]))

    def test_the_sights_handed_in_may_be_changed_behind(self):
        seen, held = ["f1", "up"], ["bad", "go", "up"]
        sights = [(seen, held), [["go"], []]]
        sides = Sides(some_warden(), sights)
        self.assertEqual((sights, seen, held), ([(seen, held), [["go"], []]], ["f1", "up"], ["bad", "go", "up"]))
        seen.clear()
        held[1] = "f1"
        sights.clear()
        self.assertEqual((sides.part(0).seen(), sides.part(1).seen()), (["f1", "up"], ["go"]))
        self.assertEqual((sides.holders("go"), sides.holders("f1")), ([0], []))
        self.assertEqual((sides.forbids(0, (1,)), sides.lets(["f1"]), lapse(sides)), (["go"], ["up"], None))

    def test_what_is_refused_changes_nothing(self):
        sides = Sides(some_warden(), [(["f1", "up"], HELD)])
        self.refused(NoRow, sides.lets, ["bad"])
        self.refused(NoDeed, sides.lets, ["nothing"])
        self.refused(NoDeed, sides.holders, "nothing")
        self.assertEqual((sides.lets(["f1"]), sides.holders("go")), (["up"], [0]))


if __name__ == "__main__":
    unittest.main()
