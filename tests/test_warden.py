"""The warden: [5.1], [5.2], and of the whole [0.2] (a) and (b), [0.3], [0.4]."""

import unittest

from helper import (DEEDS, ODD_TEXTS, ODD_THINGS, RefusalCase, house_of, line, machine_of, ring, rows_of, some_wardens,
                    warden_of)
from roomward.errors import NoDeed, NoRoom, NotNow, NoWarden, TooMany
from roomward.houses import House
from roomward.rounds import left, rounds, unstopped
from roomward.rules import Hold, Most, Never, Turns
from roomward.warden import Warden, judge_of

# c goes for f1, which breaks a rule; e and x are shut, d goes for f2, which leads to e; y is left, but behind c alone.
DOORS = ["a go b", "a up c", "a bad a", "b f0 a", "b go d", "b up x", "c f1 c", "c go y", "d f2 e", "d go a", "e up e"]
RULES = (Never("f1"), Never("bad"))


def r(name):
    """A room of the house of these doors."""
    return (name, "r0", "r0")


def some_house():
    return house_of("a", "abcdy", DOORS, RULES)


class Made(RefusalCase):
    def no_warden(self, house, word, row):
        """Ask that a house is refused with just this word and row."""
        error = self.refused(NoWarden, Warden, house)
        self.assertEqual((error.word, error.row), (word, row))
        self.assertIs(type(error.row), list)

    def test_where_the_begin_is_left(self):
        warden = Warden(some_house())
        self.assertEqual(warden.begin(), r("a"))
        self.assertEqual(warden.rooms(), [r("a"), r("b")])

    def test_the_very_house(self):
        house, other = some_house(), some_house()
        self.assertIs(Warden(house).house(), house)
        self.assertIs(Warden(other).house(), other)

    def test_a_house_of_one_room(self):
        warden = warden_of("a", "a", [])
        self.assertEqual((warden.begin(), warden.rooms()), (("a",), [("a",)]))
        self.assertEqual((warden.lets(("a",)), warden.forbids(("a",))), ([], []))

    def test_taken_off_by_a_rule_broken(self):
        self.no_warden(house_of("a", "ab", ["a f0 b", "a go b"], [Never("f0")]), "broken", ["f0"])
        house = house_of("a", "abc", ["a f1 b", "b f2 c", "c f0 c", "a go a"], [Never("f0")])
        self.no_warden(house, "broken", ["f1", "f2", "f0"])

    def test_taken_off_as_shut(self):
        self.no_warden(house_of("a", "", ["a go b"]), "shut", [])
        self.no_warden(house_of("a", "c", ["a go b", "b bad c"], [Never("bad")]), "shut", [])
        self.no_warden(house_of("a", "ab", ["a f2 b", "b f1 c"]), "shut", ["f2", "f1"])

    def test_the_row_is_unstopped_s(self):
        for house in (house_of("a", "ab", ["a f2 b", "a f0 a", "b f1 b"], [Never("f1")]),
                      house_of("a", "ab", ["a f2 b", "a f0 b", "b f1 c"])):
            word, row = unstopped(house, house.begin())
            self.no_warden(house, word, row)

    def test_too_many_rooms_first(self):
        house = House(DEEDS, [ring(DEEDS, "go", 60), ring(DEEDS, "up", 2)], [])
        self.refused(TooMany, Warden, house)
        # The begin would be taken off here: its free deed breaks a rule, and there is no end.
        plant = [line(DEEDS, "go", 60, [], [("s0", "f0")]), ring(DEEDS, "up", 2)]
        self.refused(TooMany, Warden, House(DEEDS, plant, [Never("f0")]))

    def test_just_sixty_rooms(self):
        house = House(DEEDS, [ring(DEEDS, "go", 30), ring(DEEDS, "up", 2)], [])
        warden = Warden(house)
        self.assertEqual(warden.rooms(), house.rooms())
        self.assertEqual(len(warden.rooms()), 60)
        self.assertEqual(warden.behind(["go"] * 59 + ["up"]), ("s29", "s1"))
        self.no_warden(House(DEEDS, [line(DEEDS, "f0", 60, None, [("s59", "f1")])], [Never("f1")]),
                       "broken", ["f0"] * 59 + ["f1"])

    def test_by_the_arguments_names(self):
        warden = Warden(house=some_house())
        self.assertEqual(warden.lets(room=r("a")), ["go"])
        self.assertEqual(warden.forbids(room=r("a")), ["bad", "up"])
        self.assertEqual(warden.to(room=r("a"), deed="go"), r("b"))
        self.assertEqual(warden.why(room=r("a"), deed="bad"), ("broken", ["bad"]))
        self.assertEqual(warden.behind(row=["go"]), r("b"))
        self.assertEqual(judge_of(warden=warden)(["go"]), ["f0"])


class WhatItLets(RefusalCase):
    def told(self, warden, rows):
        """Ask for a warden's rooms, told by the first machine's ones, each with what is let and what is forbidden."""
        found = [(room[0], " ".join(warden.lets(room)), " ".join(warden.forbids(room))) for room in warden.rooms()]
        self.assertEqual(found, rows)

    def test_lets_and_forbids_at_each_room(self):
        self.told(Warden(some_house()), [("a", "go", "bad up"), ("b", "f0", "go up")])

    def test_nothing_is_forbidden_where_no_room_goes(self):
        warden = warden_of("a", "ac", ["a go b", "b f0 c", "b up a", "c f1 b"])
        self.told(warden, [("a", "go", ""), ("b", "f0 up", ""), ("c", "f1", "")])

    def test_rising_lists(self):
        doors = ["a up a", "a go a", "a f2 a", "a bad a", "a f0 a"]
        self.told(warden_of("a", "a", doors), [("a", "bad f0 f2 go up", "")])
        rules = [Never("up"), Never("go"), Never("bad")]
        self.told(warden_of("a", "a", doors, rules), [("a", "f0 f2", "bad go up")])

    def test_rooms_in_the_order_of_coming_by_what_it_lets(self):
        # By the house e is come to from x, ahead of d; x is taken off.
        doors = ["a bad x", "a go b", "a up c", "x f0 x", "x go e", "b go d", "c go e", "d up g", "e bad h"]
        house = house_of("a", "abcdeghx", doors, [Never("f0")])
        self.assertEqual([room[0] for room in house.rooms()], ["a", "x", "b", "c", "e", "d", "h", "g"])
        warden = Warden(house)
        self.assertEqual([room[0] for room in warden.rooms()], ["a", "b", "c", "d", "e", "g", "h"])

    def test_rooms_that_it_comes_to_alone(self):
        house = some_house()
        self.assertIn(r("y"), left(house))
        self.assertNotIn(r("y"), Warden(house).rooms())

    def test_to(self):
        warden = Warden(some_house())
        told = {(r("a"), "go"): r("b"), (r("b"), "f0"): r("a")}
        for room in warden.rooms():
            for deed in DEEDS.names():
                self.assertEqual(warden.to(room, deed), told.get((room, deed)), (room, deed))

    def test_what_only_rules_know_is_neither_let_nor_forbidden(self):
        warden = warden_of("a", "a", ["a go a"], [Never("up"), Hold("f1", "f2"), Most("go", 1)])
        room = ("a", "r0", "r0", "r0")
        self.assertEqual((warden.lets(room), warden.forbids(room)), (["go"], []))
        self.assertIsNone(warden.to(room, "up"))

    def test_several_machines_and_rules(self):
        plant = [machine_of("a", "a", ["a go b", "b up a", "b f0 b"]), machine_of("k", "kl", ["k go l", "l go k"])]
        warden = Warden(House(DEEDS, plant, [Turns("go", "up"), Most("f0", 6)]))
        # f0 comes as often as it likes: so go is forbidden from the first.
        self.assertEqual(warden.rooms(), [("a", "k", "r0", "r0")])
        self.assertEqual(warden.forbids(warden.begin()), ["go"])
        self.assertEqual(warden.why(warden.begin(), "go"), ("broken", ["go"] + ["f0"] * 7))
        warden = Warden(House(DEEDS, plant, [Turns("go", "up")]))
        rooms = [("a", "k", "r0"), ("b", "l", "r1"), ("a", "l", "r0"), ("b", "k", "r1")]
        self.assertEqual(warden.rooms(), rooms)
        self.assertEqual([warden.lets(room) for room in rooms], [["go"], ["f0", "up"]] * 2)

    def test_both_together_are_what_the_machines_can_do(self):
        for warden in some_wardens():
            house = warden.house()
            for room in warden.rooms():
                lets, forbids = warden.lets(room), warden.forbids(room)
                self.assertEqual(sorted(lets + forbids), house.can(room))
                self.assertEqual((lets, forbids), (sorted(set(lets)), sorted(set(forbids))))
                self.assertEqual([deed for deed in forbids if house.deeds().is_free(deed)], [])

    def test_by_words(self):
        sizes = set()
        for warden in some_wardens():
            house = warden.house()
            staying, rooms = left(house), [house.begin()]
            for room in rooms:
                fars = [(deed, house.to(room, deed)) for deed in house.can(room)]
                let = [(deed, far) for deed, far in fars if far in staying]
                self.assertEqual(warden.lets(room), [deed for deed, far in let])
                for deed in house.deeds().names():
                    self.assertEqual(warden.to(room, deed), dict(let).get(deed))
                rooms.extend(sorted({far for deed, far in let if far not in rooms},
                                    key=[far for deed, far in let].index))
            self.assertEqual(warden.rooms(), rooms)
            self.assertEqual(warden.begin(), rooms[0])
            sizes.add(len(rooms))
        self.assertTrue(set(range(3, 11)) <= sizes)

    def test_what_it_lets_keeps_the_rules_and_comes_to_ends(self):
        for warden in some_wardens():
            house = warden.house()
            for room in warden.rooms():
                self.assertFalse(any(house.breaks(room, deed) for deed in warden.lets(room)))
                come = [room]
                for near in come:
                    come.extend({warden.to(near, deed) for deed in warden.lets(near)} - set(come))
                self.assertTrue(any(house.is_end(far) for far in come))


class WhatIsNoRoom(RefusalCase):
    def setUp(self):
        self.warden = Warden(some_house())
        self.asked = (self.warden.lets, self.warden.forbids, lambda room: self.warden.to(room, "go"),
                      lambda room: self.warden.why(room, "up"))

    def test_a_room_that_was_taken_off(self):
        for name in "cdex":
            self.assertIn(r(name), self.warden.house().rooms())
            for ask in self.asked:
                self.refused(NoRoom, ask, r(name))

    def test_a_room_that_is_left_but_not_come_to(self):
        for ask in self.asked:
            self.refused(NoRoom, ask, r("y"))

    def test_what_is_no_room(self):
        for thing in ODD_THINGS + ODD_TEXTS + ("a", "r0", r("z"), ("a",), ("a", "r0"), ("a", "r0", "r1"), list(r("a")),
                                               ("r0", "r0", "a"), (r("a"),), ("a", ["r0"], "r0"), r("a") + ("r0",)):
            for ask in self.asked:
                self.refused(NoRoom, ask, thing)
        self.assertEqual(self.warden.lets(r("a")), ["go"])

    def test_ahead_of_what_is_no_deed(self):
        for room in (r("c"), r("y"), "a", None, []):
            for deed in ("nothing", None, [], "go"):
                self.refused(NoRoom, self.warden.to, room, deed)
                self.refused(NoRoom, self.warden.why, room, deed)

    def test_what_is_no_deed(self):
        for thing in ODD_THINGS + ODD_TEXTS + ("nothing", "a", "r0"):
            for room in self.warden.rooms():
                self.refused(NoDeed, self.warden.to, room, thing)
                self.refused(NoDeed, self.warden.why, room, thing)


class Why(RefusalCase):
    def test_a_deed_that_breaks_a_rule(self):
        self.assertEqual(Warden(some_house()).why(r("a"), "bad"), ("broken", ["bad"]))

    def test_one_behind_which_a_rule_is_broken(self):
        self.assertEqual(Warden(some_house()).why(r("a"), "up"), ("broken", ["up", "f1"]))
        warden = warden_of("a", "abcd", ["a go b", "b f1 c", "c f2 d", "d f0 a"], [Never("f0")])
        self.assertEqual(warden.why(("a", "r0"), "go"), ("broken", ["go", "f1", "f2", "f0"]))

    def test_one_behind_which_all_is_shut(self):
        warden = Warden(some_house())
        self.assertEqual(warden.why(r("b"), "up"), ("shut", ["up"]))
        self.assertEqual(warden.why(r("b"), "go"), ("shut", ["go", "f2"]))

    def test_the_rule_that_it_breaks_itself_ahead_of_what_would_come(self):
        warden = warden_of("a", "ab", ["a go b", "b f0 b"], [Never("go"), Never("f0")])
        self.assertEqual(warden.why(warden.begin(), "go"), ("broken", ["go"]))

    def test_the_pair_s_kinds(self):
        for deed in ("bad", "up"):
            told = Warden(some_house()).why(r("a"), deed)
            self.assertEqual((type(told), type(told[1])), (tuple, list))

    def test_a_deed_that_is_let(self):
        warden = Warden(some_house())
        self.refused(NotNow, warden.why, r("a"), "go")
        self.refused(NotNow, warden.why, r("b"), "f0")

    def test_a_deed_that_can_not_be_done_there(self):
        warden = Warden(some_house())
        for room, deed in ((r("a"), "f0"), (r("a"), "f1"), (r("b"), "bad"), (r("b"), "f1"), (r("b"), "f2")):
            self.refused(NotNow, warden.why, room, deed)
        warden = warden_of("a", "a", [], [Never("up")])
        for deed in DEEDS.names():
            self.refused(NotNow, warden.why, ("a", "r0"), deed)

    def test_each_forbidden_deed_by_words(self):
        words = set()
        for warden in some_wardens():
            house = warden.house()
            reasons = {room: reason for taken in rounds(house) for room, reason in taken}
            for room in warden.rooms():
                for deed in house.deeds().names():
                    if deed not in warden.forbids(room):
                        self.refused(NotNow, warden.why, room, deed)
                        continue
                    word, row = warden.why(room, deed)
                    self.assertEqual(row[0], deed)
                    self.assertTrue(all(house.deeds().is_free(other) for other in row[1:]))
                    here = room
                    for place, other in enumerate(row):
                        self.assertIs(house.breaks(here, other), word == "broken" and place == len(row) - 1)
                        here = house.to(here, other)
                    self.assertEqual(reasons.get(here), ("shut",) if word == "shut" else None)
                    if not house.breaks(room, deed):
                        self.assertEqual((word, row[1:]), unstopped(house, house.to(room, deed)))
                    words.add((word, len(row)))
        self.assertTrue({("broken", 1), ("broken", 2), ("shut", 1)} <= words)


class Behind(RefusalCase):
    def setUp(self):
        self.warden = Warden(some_house())
        self.judge = judge_of(self.warden)

    def test_the_empty_row(self):
        self.assertEqual(self.warden.behind([]), r("a"))
        self.assertEqual(self.judge([]), ["go"])

    def test_rows_that_are_let(self):
        for row, name, let in ((["go"], "b", ["f0"]), (["go", "f0"], "a", ["go"]), (["go", "f0"] * 100, "a", ["go"])):
            self.assertEqual(self.warden.behind(row), r(name))
            self.assertEqual(self.judge(row), let)

    def test_rows_that_are_not_let(self):
        for row in (["up"], ["bad"], ["up", "go"], ["f0"], ["go", "up", "f0"], ["go", "go", "f0"], ["go", "f0", "bad"],
                    ["go", "f0", "go", "go"], ["go", "f0", "up", "f1"]):
            self.assertIsNone(self.warden.behind(row))
            self.assertIsNone(self.judge(row))

    def test_rows_with_deeds_that_nobody_knows(self):
        warden = warden_of("a", "ab", ["a go b", "b go a"], [Never("up")])
        for row in (["f2"], ["up"], ["go", "f1"], ["f1", "go"], ["go", "bad", "go"]):
            self.assertIsNone(warden.behind(row))
            self.assertIsNone(judge_of(warden)(row))

    def test_a_room_without_anything_let(self):
        self.assertEqual(judge_of(warden_of("a", "ab", ["a go b"]))(["go"]), [])

    def test_what_is_no_deed_anywhere_in_the_row(self):
        for thing in ODD_THINGS + ODD_TEXTS + ("nothing", "a"):
            for row in ([thing], ["go", thing], [thing, "go"], ["go", thing, "f0"], ["up", thing], ["f0", "f0", thing],
                        ["go", "f0", "bad", "go", thing]):
                self.refused(NoDeed, self.warden.behind, row)
                self.refused(NoDeed, self.judge, row)

    def test_the_row_stays_as_it_was(self):
        for row in ([], ["go", "f0", "go"], ["go", "up", "up"], ["go", "nothing"]):
            kept = list(row)
            for ask in (self.warden.behind, self.judge):
                try:
                    ask(row)
                except NoDeed:
                    pass
                self.assertEqual(row, kept)

    def test_two_judges_by_turns(self):
        other = judge_of(warden_of("a", "ab", ["a up b", "b up a", "b go b"]))
        for turn in range(3):
            self.assertEqual(self.judge(["go"]), ["f0"])
            self.assertEqual(other(["up"]), ["go", "up"])
            self.assertIsNone(other(["go"]))
            self.assertIsNone(self.judge(["up"]))
            self.assertEqual(other([]), ["up"])
            self.assertEqual(self.judge([]), ["go"])
            self.refused(NoDeed, other, ["nothing"])

    def test_two_judges_of_one_warden(self):
        again = judge_of(self.warden)
        self.assertEqual((again(["go"]), self.judge(["go", "f0"]), again([])), (["f0"], ["go"], ["go"]))

    def test_rows_by_words(self):
        for warden in list(some_wardens())[:20]:
            judge = judge_of(warden)
            for row in rows_of(warden.house().deeds().names(), 4):
                room = warden.begin()
                for deed in row:
                    room = warden.to(room, deed) if room is not None else None
                self.assertEqual(warden.behind(row), room)
                self.assertEqual(judge(row), None if room is None else warden.lets(room))


class WhoseLists(RefusalCase):
    def test_lists_told_are_the_askers_own(self):
        warden = Warden(some_house())
        judge = judge_of(warden)
        for ask in (warden.rooms, lambda: warden.lets(r("a")), lambda: warden.forbids(r("a")), lambda: judge([]),
                    lambda: warden.why(r("a"), "up")[1], lambda: warden.why(r("a"), "bad")[1],
                    lambda: warden.why(r("b"), "up")[1]):
            told, kept = ask(), ask()
            self.assertIs(type(told), list)
            told.append("z")
            told[0] = "z"
            self.assertEqual(ask(), kept)
        self.assertEqual(warden.behind(["go", "f0"]), r("a"))
        self.assertEqual(warden.rooms(), [r("a"), r("b")])

    def test_the_row_of_a_refusal_is_the_askers_own(self):
        house = house_of("a", "ab", ["a f0 b", "b f1 b"], [Never("f1")])
        error = self.refused(NoWarden, Warden, house)
        error.row.append("z")
        self.assertEqual(self.refused(NoWarden, Warden, house).row, ["f0", "f1"])

    def test_lists_handed_in_may_be_changed_behind(self):
        plant, rules = [machine_of("a", "ab", ["a go b", "b f0 b", "a up a"])], [Never("f0")]
        warden = Warden(House(DEEDS, plant, rules))
        rules[0] = Never("up")
        plant.clear()
        self.assertEqual((warden.rooms(), warden.forbids(("a", "r0"))), ([("a", "r0")], ["go"]))
        row = ["up"]
        room = warden.behind(row)
        row.append("go")
        self.assertEqual((room, warden.behind(["up"])), (("a", "r0"), ("a", "r0")))

    def test_the_house_stays_as_it_was(self):
        house = some_house()
        rooms, staying = house.rooms(), left(house)
        warden = Warden(house)
        warden.why(r("b"), "go")
        self.refused(NotNow, warden.why, r("b"), "f0")
        self.assertEqual((house.rooms(), left(house)), (rooms, staying))

    def test_what_is_refused_changes_nothing(self):
        warden = Warden(some_house())
        self.refused(NoRoom, warden.to, r("c"), "go")
        self.refused(NoDeed, warden.behind, ["go", "nothing"])
        self.refused(NotNow, warden.why, r("a"), "go")
        self.assertEqual((warden.rooms(), warden.behind(["go"])), ([r("a"), r("b")], r("b")))


if __name__ == "__main__":
    unittest.main()
