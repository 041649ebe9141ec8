"""Machines: [1.2], [1.3], and of the whole [0.1], [0.3], [0.4]."""

import unittest

from helper import ODD_TEXTS, ODD_THINGS, RefusalCase
from roomward.deeds import Deeds
from roomward.errors import NoDeed, NoName, NoRoom, TooMany, TwiceTold
from roomward.machines import Machine

DEEDS = Deeds(["start", "stop", "fail", "mend", "call"], ["fail"])
DOORS = [("idle", "start", "busy"), ("busy", "stop", "idle"), ("busy", "fail", "down"), ("down", "mend", "idle")]


def pump():
    return Machine(DEEDS, "idle", ["idle"], list(DOORS))


def ring(many):
    """Doors that lead round through so many rooms."""
    rooms = ["r" + str(k) for k in range(many)]
    return [(room, "start", rooms[(k + 1) % many]) for k, room in enumerate(rooms)]


class MachineTold(RefusalCase):
    def test_a_small_one(self):
        machine = pump()
        self.assertIs(machine.deeds(), DEEDS)
        self.assertEqual(machine.begin(), "idle")
        self.assertEqual(machine.rooms(), ["busy", "down", "idle"])
        self.assertEqual(machine.ends(), ["idle"])
        self.assertEqual(machine.knows(), ["fail", "mend", "start", "stop"])
        self.assertEqual([machine.at(room) for room in machine.rooms()], [["fail", "stop"], ["mend"], ["start"]])
        self.assertEqual([machine.is_end(room) for room in machine.rooms()], [False, False, True])

    def test_doors_lead_where_told(self):
        machine = pump()
        told = {(room, deed): far for room, deed, far in DOORS}
        for room in machine.rooms():
            for deed in DEEDS.names():
                self.assertEqual(machine.to(room, deed), told.get((room, deed)), (room, deed))

    def test_begin_alone(self):
        for machine in (Machine(Deeds([]), "a", [], []), Machine(Deeds(["x"]), "a", [], [], [])):
            self.assertEqual(machine.begin(), "a")
            self.assertEqual(machine.rooms(), ["a"])
            self.assertEqual(machine.ends(), [])
            self.assertEqual(machine.knows(), [])
            self.assertEqual(machine.at("a"), [])
            self.assertIs(machine.is_end("a"), False)
            self.assertEqual(machine.behind([]), "a")

    def test_begin_that_no_door_names(self):
        machine = Machine(DEEDS, "out", ["a"], [("a", "call", "b")])
        self.assertEqual(machine.rooms(), ["a", "b", "out"])
        self.assertEqual(machine.at("out"), [])
        self.assertIsNone(machine.to("out", "call"))

    def test_a_room_named_only_by_an_end(self):
        machine = Machine(DEEDS, "a", ["z"], [("a", "call", "a")])
        self.assertEqual(machine.rooms(), ["a", "z"])
        self.assertEqual(machine.ends(), ["z"])
        self.assertEqual(machine.at("z"), [])
        self.assertIsNone(machine.to("z", "call"))
        self.assertEqual([machine.is_end("a"), machine.is_end("z")], [False, True])

    def test_a_room_named_only_by_a_doors_far_side(self):
        machine = Machine(DEEDS, "a", [], [("a", "call", "far")])
        self.assertEqual(machine.rooms(), ["a", "far"])
        self.assertEqual(machine.at("far"), [])
        self.assertIsNone(machine.to("far", "call"))
        self.assertIs(machine.is_end("far"), False)

    def test_rooms_that_nobody_comes_to(self):
        machine = Machine(DEEDS, "a", [], [("b", "call", "c")])
        self.assertEqual(machine.rooms(), ["a", "b", "c"])
        self.assertEqual(machine.to("b", "call"), "c")

    def test_rising_as_texts_are(self):
        machine = Machine(DEEDS, "r2", ["r9", "r10", "r1"], [("r2", "stop", "r11"), ("r2", "call", "r2")])
        self.assertEqual(machine.rooms(), ["r1", "r10", "r11", "r2", "r9"])
        self.assertEqual(machine.ends(), ["r1", "r10", "r9"])
        self.assertEqual(machine.at("r2"), ["call", "stop"])

    def test_ends_told_twice(self):
        machine = Machine(DEEDS, "a", ["b", "a", "b", "b", "a"], [])
        self.assertEqual(machine.ends(), ["a", "b"])
        self.assertEqual(machine.rooms(), ["a", "b"])
        self.assertEqual(Machine(DEEDS, "a", ["a"] * 70, []).rooms(), ["a"])

    def test_known_deeds_told_twice(self):
        machine = Machine(DEEDS, "a", [], [("a", "call", "a")], ["stop", "call", "stop", "fail", "call"])
        self.assertEqual(machine.knows(), ["call", "fail", "stop"])
        self.assertEqual(machine.at("a"), ["call"])

    def test_more_left_out(self):
        for machine in (Machine(DEEDS, "a", [], [("a", "call", "b"), ("b", "call", "a")]),
                        Machine(DEEDS, "a", [], [("a", "call", "b"), ("b", "call", "a")], None),
                        Machine(DEEDS, "a", [], [("a", "call", "b"), ("b", "call", "a")], [])):
            self.assertEqual(machine.knows(), ["call"])

    def test_by_the_arguments_names(self):
        machine = Machine(deeds=DEEDS, begin="a", ends=["b"], doors=[("a", "call", "b")], more=["stop"])
        self.assertEqual(machine.to(room="a", deed="call"), "b")
        self.assertEqual(machine.at(room="a"), ["call"])
        self.assertIs(machine.is_end(room="b"), True)
        self.assertEqual(machine.behind(row=["call"]), "b")
        self.assertEqual(machine.knows(), ["call", "stop"])

    def test_one_deed_at_many_rooms_and_many_deeds_at_one(self):
        doors = [("a", "call", "b"), ("b", "call", "b"), ("a", "stop", "b"), ("a", "start", "b")]
        machine = Machine(DEEDS, "a", [], doors)
        self.assertEqual(machine.at("a"), ["call", "start", "stop"])
        self.assertEqual(machine.at("b"), ["call"])

    def test_rooms_may_be_called_like_deeds(self):
        machine = Machine(DEEDS, "call", ["stop"], [("call", "stop", "stop")])
        self.assertEqual(machine.to("call", "stop"), "stop")
        self.refused(NoRoom, machine.at, "start")


class MachineAsked(RefusalCase):
    def test_rooms_that_it_has_not(self):
        machine = pump()
        for room in ODD_TEXTS + ("other", "start", (), ("idle",), ("idle", "busy"), None, 0, True, ["idle"]):
            self.refused(NoRoom, machine.at, room)
            self.refused(NoRoom, machine.is_end, room)
            self.refused(NoRoom, machine.to, room, "start")

    def test_no_room_ahead_of_no_deed(self):
        machine = pump()
        self.refused(NoRoom, machine.to, "other", "nothing")
        self.refused(NoRoom, machine.to, ("idle",), None)

    def test_deeds_that_there_are_not(self):
        machine = pump()
        for deed in ODD_THINGS + ODD_TEXTS + ("nothing", "idle"):
            self.refused(NoDeed, machine.to, "idle", deed)

    def test_a_deed_that_it_does_not_know_has_no_door(self):
        self.assertIsNone(pump().to("idle", "call"))

    def test_refused_changes_nothing(self):
        machine = pump()
        self.refused(NoRoom, machine.at, "other")
        self.refused(NoDeed, machine.to, "idle", "nothing")
        self.refused(NoDeed, machine.behind, ["start", "nothing"])
        self.assertEqual(machine.rooms(), ["busy", "down", "idle"])
        self.assertEqual(machine.knows(), ["fail", "mend", "start", "stop"])
        self.assertEqual(machine.behind([]), "idle")


class MachineRefused(RefusalCase):
    def test_a_begin_that_is_no_name(self):
        for thing in ODD_THINGS + ODD_TEXTS:
            self.refused(NoName, Machine, DEEDS, thing, [], [])

    def test_an_end_that_is_no_name(self):
        for thing in ODD_THINGS + ODD_TEXTS:
            self.refused(NoName, Machine, DEEDS, "a", [thing], [])
            self.refused(NoName, Machine, DEEDS, "a", ["a", thing], [])

    def test_a_doors_room_that_is_no_name(self):
        for thing in ODD_THINGS + ODD_TEXTS:
            self.refused(NoName, Machine, DEEDS, "a", [], [(thing, "call", "a")])
            self.refused(NoName, Machine, DEEDS, "a", [], [("a", "call", thing)])
            self.refused(NoName, Machine, DEEDS, "a", [], [("a", "call", "a"), ("b", "call", thing)])

    def test_a_doors_deed_that_is_none(self):
        for thing in ODD_THINGS + ODD_TEXTS + ("nothing", "a"):
            self.refused(NoDeed, Machine, DEEDS, "a", [], [("a", thing, "a")])
            self.refused(NoDeed, Machine, DEEDS, "a", [], [("a", "call", "a"), ("b", thing, "a")])

    def test_a_known_deed_that_is_none(self):
        for thing in ODD_THINGS + ODD_TEXTS + ("nothing", "a"):
            self.refused(NoDeed, Machine, DEEDS, "a", [], [], [thing])
            self.refused(NoDeed, Machine, DEEDS, "a", [], [("a", "call", "a")], ["call", thing])

    def test_two_doors_of_one_room_and_deed(self):
        self.refused(TwiceTold, Machine, DEEDS, "a", [], [("a", "call", "a"), ("a", "call", "b")])
        self.refused(TwiceTold, Machine, DEEDS, "a", [], [("a", "call", "b"), ("a", "call", "b")])
        apart = [("a", "call", "b"), ("a", "stop", "b"), ("b", "call", "a"), ("a", "call", "a")]
        self.refused(TwiceTold, Machine, DEEDS, "a", [], apart)
        self.refused(TwiceTold, Machine, DEEDS, "c", [], apart)

    def test_just_sixty_rooms(self):
        machine = Machine(DEEDS, "r0", [], ring(60))
        self.assertEqual(len(machine.rooms()), 60)
        self.assertEqual(machine.behind(["start"] * 59), "r59")
        self.assertEqual(machine.behind(["start"] * 60), "r0")
        self.assertEqual(len(Machine(DEEDS, "z", [], ring(59)).rooms()), 60)
        self.assertEqual(len(Machine(DEEDS, "r0", ["z", "z", "r1"], ring(59)).rooms()), 60)

    def test_sixty_one_rooms(self):
        self.refused(TooMany, Machine, DEEDS, "r0", [], ring(61))
        self.refused(TooMany, Machine, DEEDS, "z", [], ring(60))
        self.refused(TooMany, Machine, DEEDS, "r0", ["z"], ring(60))
        self.refused(TooMany, Machine, DEEDS, "r0", [], ring(60) + [("r0", "stop", "z")])
        self.refused(TooMany, Machine, DEEDS, "r0", [], ring(60) + [("z", "stop", "r0")])
        self.refused(TooMany, Machine, DEEDS, "a", ["e" + str(k) for k in range(60)], [])
        self.refused(TooMany, Machine, DEEDS, "r0", [], ring(90))

    def test_no_name_ahead_of_all_else(self):
        doors = [("a", "nothing", "b"), ("a", "call", "b"), ("a", "call", "B")]
        self.refused(NoName, Machine, DEEDS, "a", [], doors)
        self.refused(NoName, Machine, DEEDS, "A", [], [("a", "nothing", "b")])
        self.refused(NoName, Machine, DEEDS, "a", ["A"], [], ["nothing"])
        self.refused(NoName, Machine, DEEDS, "a", [], [("a", "call", "a"), ("a", "call", "a"), ("a", "stop", None)])
        self.refused(NoName, Machine, DEEDS, "r0", ["R"], ring(61))
        self.refused(NoName, Machine, DEEDS, "a", [], [("a", None, None)])

    def test_no_deed_ahead_of_twice_told(self):
        twice = [("a", "call", "a"), ("a", "call", "b")]
        self.refused(NoDeed, Machine, DEEDS, "a", [], twice + [("a", "nothing", "b")])
        self.refused(NoDeed, Machine, DEEDS, "a", [], twice, ["nothing"])
        self.refused(NoDeed, Machine, DEEDS, "a", [], [("a", "nothing", "a"), ("a", "nothing", "a")])

    def test_no_deed_ahead_of_too_many(self):
        self.refused(NoDeed, Machine, DEEDS, "r0", [], ring(61) + [("r0", "nothing", "r0")])
        self.refused(NoDeed, Machine, DEEDS, "r0", [], ring(61), ["nothing"])

    def test_twice_told_ahead_of_too_many(self):
        self.refused(TwiceTold, Machine, DEEDS, "r0", [], ring(61) + ring(61)[-1:])
        self.refused(TwiceTold, Machine, DEEDS, "r0", [], ring(61)[:1] + ring(61))


class Behind(RefusalCase):
    def test_the_empty_row(self):
        self.assertEqual(pump().behind([]), "idle")
        self.assertEqual(Machine(DEEDS, "down", [], DOORS).behind([]), "down")

    def test_through_doors(self):
        machine = pump()
        self.assertEqual(machine.behind(["start"]), "busy")
        self.assertEqual(machine.behind(["start", "stop"]), "idle")
        self.assertEqual(machine.behind(["start", "fail"]), "down")
        self.assertEqual(machine.behind(["start", "fail", "mend", "start"]), "busy")
        self.assertEqual(machine.behind(["start", "stop"] * 100), "idle")

    def test_deeds_that_it_does_not_know(self):
        machine = pump()
        self.assertEqual(machine.behind(["call"]), "idle")
        self.assertEqual(machine.behind(["call"] * 200), "idle")
        self.assertEqual(machine.behind(["call", "start", "call", "call", "fail", "call"]), "down")

    def test_one_that_it_knows_and_has_no_door_for(self):
        machine = pump()
        for row in (["stop"], ["mend"], ["start", "start"], ["start", "mend"], ["start", "stop", "stop"],
                    ["call", "stop"], ["stop", "start"], ["stop", "call"], ["start", "start", "stop"]):
            self.assertIsNone(machine.behind(row), row)

    def test_one_that_it_knows_without_any_door(self):
        machine = Machine(DEEDS, "a", [], [("a", "start", "b")], ["call"])
        self.assertIsNone(machine.behind(["call"]))
        self.assertIsNone(machine.behind(["start", "call"]))
        self.assertEqual(machine.behind(["stop", "start"]), "b")

    def test_a_deed_that_there_is_not_anywhere(self):
        machine = pump()
        for thing in ODD_THINGS + ODD_TEXTS + ("nothing", "idle"):
            self.refused(NoDeed, machine.behind, [thing])
            self.refused(NoDeed, machine.behind, [thing, "start"])
            self.refused(NoDeed, machine.behind, ["start", thing])
            self.refused(NoDeed, machine.behind, ["call", "start", thing, "stop"])
            self.refused(NoDeed, machine.behind, ["stop", thing])
            self.refused(NoDeed, machine.behind, ["stop", "start", "call", thing])

    def test_each_row_goes_from_the_begin(self):
        machine = pump()
        self.assertEqual([machine.behind(["start"]) for k in range(3)], ["busy", "busy", "busy"])

    def test_as_to_goes(self):
        machine = pump()
        rows = [[]]
        for length in range(4):
            rows = [row + [deed] for row in rows for deed in DEEDS.names()]
            for row in rows:
                room = machine.begin()
                for deed in row:
                    if room is not None and deed in machine.knows():
                        room = machine.to(room, deed)
                self.assertEqual(machine.behind(row), room, row)


class WhoseLists(RefusalCase):
    def test_lists_handed_in_are_not_changed(self):
        ends, doors, more, row = ["b", "b"], [("b", "call", "a"), ("a", "call", "b")], ["stop", "stop"], ["call"]
        Machine(DEEDS, "a", ends, doors, more).behind(row)
        self.assertEqual(ends, ["b", "b"])
        self.assertEqual(doors, [("b", "call", "a"), ("a", "call", "b")])
        self.assertEqual((more, row), (["stop", "stop"], ["call"]))
        doors.append(("a", "call", "a"))
        self.refused(TwiceTold, Machine, DEEDS, "a", ends, doors, more)
        self.assertEqual(doors, [("b", "call", "a"), ("a", "call", "b"), ("a", "call", "a")])
        self.assertEqual((ends, more), (["b", "b"], ["stop", "stop"]))

    def test_lists_handed_in_are_not_kept(self):
        ends, doors, more = ["b"], [("a", "call", "b")], ["stop"]
        machine = Machine(DEEDS, "a", ends, doors, more)
        ends.append("z")
        ends[0] = "y"
        doors.append(("b", "fail", "a"))
        doors[0] = ("a", "mend", "x")
        more.append("start")
        more[0] = "fail"
        self.assertEqual(machine.rooms(), ["a", "b"])
        self.assertEqual(machine.ends(), ["b"])
        self.assertEqual(machine.knows(), ["call", "stop"])
        self.assertEqual((machine.at("a"), machine.at("b")), (["call"], []))
        self.assertEqual([machine.is_end("a"), machine.is_end("b")], [False, True])
        self.assertEqual(machine.behind(["call", "fail"]), "b")
        self.assertIsNone(machine.behind(["stop"]))

    def test_lists_told_are_the_askers_own(self):
        machine = Machine(DEEDS, "a", ["b"], [("a", "call", "b")], ["stop"])
        for told in (machine.rooms(), machine.ends(), machine.knows(), machine.at("a"), machine.at("b")):
            self.assertIsInstance(told, list)
            told.append("z")
            told[0] = "y"
        self.assertEqual(machine.rooms(), ["a", "b"])
        self.assertEqual(machine.ends(), ["b"])
        self.assertEqual(machine.knows(), ["call", "stop"])
        self.assertEqual((machine.at("a"), machine.at("b")), (["call"], []))
        self.assertEqual(machine.behind(["call"]), "b")

    def test_a_row_handed_in_is_not_kept(self):
        machine, row = pump(), ["start"]
        self.assertEqual(machine.behind(row), "busy")
        row.append("fail")
        self.assertEqual(machine.behind(row), "down")
        self.assertEqual(machine.behind(["start"]), "busy")

    def test_two_machines_of_the_same_lists(self):
        ends, doors, more = ["b"], [("a", "call", "b")], ["stop"]
        one = Machine(DEEDS, "a", ends, doors, more)
        other = Machine(DEEDS, "b", ends, doors)
        self.assertEqual((one.begin(), one.knows()), ("a", ["call", "stop"]))
        self.assertEqual((other.begin(), other.knows()), ("b", ["call"]))


if __name__ == "__main__":
    unittest.main()
