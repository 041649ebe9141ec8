"""Woven machines: [2.1], [2.2], [2.3], and of the whole [0.3], [0.4]."""

import unittest

from helper import ODD_TEXTS, ODD_THINGS, RefusalCase, line, ring, rows_of, some_machine
from roomward.deeds import Deeds
from roomward.errors import NoDeed, TooMany
from roomward.machines import Machine
from roomward.weaving import Woven, made_one

DEEDS = Deeds(["give", "take", "load", "call", "fail"], ["fail"])


def giver():
    return Machine(DEEDS, "out", ["out"], [("out", "load", "full"), ("full", "give", "out"), ("full", "fail", "out")])


def taker():
    return Machine(DEEDS, "idle", ["idle"], [("idle", "give", "has"), ("has", "take", "idle"), ("has", "fail", "idle")])


def watcher():
    return Machine(DEEDS, "w", ["w"], [("w", "give", "w"), ("w", "load", "v"), ("v", "give", "w")])


def sixty_and(more):
    """Two machines whose woven rooms are just sixty and so many more (from 0 to 1)."""
    many = 59 + more
    last = "s" + str(many - 1)
    far = line(DEEDS, "load", many, None, [(last, "call")])
    return [far, Machine(DEEDS, "p", ["p"], [("p", "call", "q")])]


class WovenOfSomeMany(RefusalCase):
    def test_one(self):
        woven = Woven([giver()])
        self.assertEqual(woven.begin(), ("out",))
        self.assertEqual(woven.knows(), ["fail", "give", "load"])
        self.assertEqual(woven.at(("out",)), ["load"])
        self.assertEqual(woven.at(("full",)), ["fail", "give"])
        self.assertEqual(woven.to(("out",), "load"), ("full",))
        self.assertIsNone(woven.to(("out",), "give"))
        self.assertIsNone(woven.to(("out",), "call"))
        self.assertEqual(woven.rooms(), [("out",), ("full",)])

    def test_two(self):
        woven = Woven([giver(), taker()])
        self.assertEqual(woven.begin(), ("out", "idle"))
        self.assertEqual(woven.knows(), ["fail", "give", "load", "take"])
        self.assertEqual(woven.rooms(), [("out", "idle"), ("full", "idle"), ("out", "has"), ("full", "has")])
        self.assertEqual([woven.at(room) for room in woven.rooms()], [["load"], ["give"], ["load", "take"],
                                                                      ["fail", "take"]])

    def test_three(self):
        woven = Woven([taker(), watcher(), giver()])
        self.assertEqual(woven.begin(), ("idle", "w", "out"))
        self.assertEqual(woven.to(("idle", "w", "out"), "load"), ("idle", "v", "full"))
        self.assertEqual(woven.to(("idle", "v", "full"), "give"), ("has", "w", "out"))
        self.assertEqual(woven.to(("idle", "w", "full"), "give"), ("has", "w", "out"))
        self.assertIsNone(woven.to(("idle", "w", "out"), "give"))

    def test_seven(self):
        woven = Woven([giver(), taker(), watcher(), giver(), taker(), watcher(), giver()])
        self.assertEqual(woven.begin(), ("out", "idle", "w", "out", "idle", "w", "out"))
        self.assertEqual(woven.to(woven.begin(), "load"), ("full", "idle", "v", "full", "idle", "v", "full"))
        thrice = [("out", "idle", "w"), ("full", "idle", "v"), ("out", "has", "w"), ("full", "has", "v"),
                  ("out", "idle", "v")]
        self.assertEqual(woven.rooms(), [room + room + room[:1] for room in thrice])

    def test_none_and_eight(self):
        self.refused(TooMany, Woven, [])
        self.refused(TooMany, Woven, [giver()] * 8)
        self.refused(TooMany, Woven, [giver(), taker()] * 6)
        self.assertEqual(len(Woven([giver()] * 7).begin()), 7)

    def test_by_the_arguments_names(self):
        woven = Woven(machines=[giver()])
        self.assertEqual(woven.at(room=("out",)), ["load"])
        self.assertEqual(woven.to(room=("out",), deed="load"), ("full",))
        self.assertIs(woven.is_end(room=("out",)), True)
        self.assertEqual(made_one(woven=woven).begin(), "r0")

    def test_the_same_machine_often(self):
        machine = giver()
        woven = Woven([machine, machine])
        self.assertEqual(woven.rooms(), [("out", "out"), ("full", "full")])
        self.assertEqual(woven.at(("out", "full")), [])


class DeedsDone(RefusalCase):
    def test_that_one_knows(self):
        woven = Woven([giver(), taker()])
        self.assertEqual(woven.to(("out", "has"), "take"), ("out", "idle"))
        self.assertEqual(woven.to(("out", "has"), "load"), ("full", "has"))
        self.assertIsNone(woven.to(("out", "idle"), "take"))
        self.assertIsNone(woven.to(("full", "has"), "load"))

    def test_that_some_know(self):
        woven = Woven([giver(), taker(), watcher()])
        self.assertEqual(woven.to(("out", "has", "w"), "load"), ("full", "has", "v"))
        self.assertEqual(woven.to(("full", "has", "v"), "fail"), ("out", "idle", "v"))
        self.assertIsNone(woven.to(("out", "has", "v"), "load"))

    def test_that_all_know(self):
        woven = Woven([giver(), taker(), watcher()])
        self.assertEqual(woven.to(("full", "idle", "v"), "give"), ("out", "has", "w"))

    def test_one_of_those_who_know_it_has_no_door(self):
        woven = Woven([giver(), taker(), watcher()])
        for room in (("out", "idle", "w"), ("full", "has", "w"), ("out", "idle", "v"), ("out", "has", "v")):
            self.assertIsNone(woven.to(room, "give"))
            self.assertNotIn("give", woven.at(room))
        known = Machine(DEEDS, "k", [], [], ["give"])
        for machines in ([giver(), taker(), known], [known, giver(), taker()], [giver(), known, taker()]):
            woven = Woven(machines)
            room = tuple({"out": "full"}.get(part, part) for part in woven.begin())
            self.assertIsNone(woven.to(room, "give"))
            self.assertEqual(woven.at(room), [])

    def test_that_nobody_knows(self):
        woven = Woven([giver(), taker(), watcher()])
        self.assertNotIn("call", woven.knows())
        for room in woven.rooms():
            self.assertIsNone(woven.to(room, "call"))
            self.assertNotIn("call", woven.at(room))
        nothing = Woven([Machine(DEEDS, "a", [], []), Machine(DEEDS, "b", [], [])])
        self.assertEqual((nothing.knows(), nothing.at(("a", "b")), nothing.rooms()), ([], [], [("a", "b")]))
        self.assertIsNone(nothing.to(("a", "b"), "call"))

    def test_what_is_known_without_a_door_is_told_as_known(self):
        woven = Woven([Machine(DEEDS, "a", [], [], ["call"]), giver()])
        self.assertEqual(woven.knows(), ["call", "fail", "give", "load"])
        self.assertIsNone(woven.to(woven.begin(), "call"))

    def test_at_rooms_that_are_not_come_to(self):
        machine = Machine(DEEDS, "a", ["z"], [("z", "call", "y")])
        woven = Woven([machine, taker()])
        self.assertEqual(woven.rooms(), [("a", "idle"), ("a", "has")])
        self.assertEqual(woven.at(("z", "has")), ["call", "fail", "take"])
        self.assertEqual(woven.to(("z", "has"), "call"), ("y", "has"))
        self.assertIs(woven.is_end(("z", "idle")), True)

    def test_what_is_no_deed(self):
        woven = Woven([giver(), taker()])
        for thing in ODD_THINGS + ODD_TEXTS + ("nothing", "idle"):
            self.refused(NoDeed, woven.to, ("out", "idle"), thing)
        self.assertEqual(woven.to(("out", "idle"), "load"), ("full", "idle"))


class Ends(unittest.TestCase):
    def test_all_some_and_none(self):
        woven = Woven([giver(), taker(), watcher()])
        self.assertIs(woven.is_end(("out", "idle", "w")), True)
        for room in (("full", "idle", "w"), ("out", "has", "w"), ("out", "idle", "v"), ("full", "has", "w"),
                     ("full", "idle", "v"), ("out", "has", "v"), ("full", "has", "v")):
            self.assertIs(woven.is_end(room), False)

    def test_of_one(self):
        woven = Woven([giver()])
        self.assertIs(woven.is_end(("out",)), True)
        self.assertIs(woven.is_end(("full",)), False)

    def test_without_ends(self):
        self.assertIs(Woven([giver(), Machine(DEEDS, "a", [], [])]).is_end(("out", "a")), False)


class RoomsComeTo(RefusalCase):
    def test_room_by_room_by_rising_deeds(self):
        doors = [("a", "take", "b"), ("a", "call", "c"), ("c", "load", "d"), ("b", "call", "e"), ("c", "give", "b"),
                 ("d", "call", "g"), ("e", "call", "f"), ("e", "fail", "a")]
        self.assertEqual(Woven([Machine(DEEDS, "a", [], doors)]).rooms(),
                         [("a",), ("c",), ("b",), ("d",), ("e",), ("g",), ("f",)])

    def test_as_rows_come_to_them(self):
        for seed in range(60):
            machines = [some_machine(DEEDS, seed * 5 + k, 3) for k in range(1 + seed % 3)]
            woven = Woven(machines)
            come = {}
            for row in rows_of(woven.knows(), 5):
                parts = tuple(machine.behind(row) for machine in machines)
                if None not in parts:
                    come.setdefault(parts, row)
            told = woven.rooms()
            self.assertEqual([room for room in told if room in come], list(come))
            self.assertEqual(len(told), len(set(told)))

    def test_just_sixty(self):
        woven = Woven(sixty_and(0))
        self.assertEqual(len(woven.rooms()), 60)
        self.assertEqual(woven.rooms()[-2:], [("s58", "p"), ("s58", "q")])
        self.assertEqual(len(Woven([ring(DEEDS, "load", 6), ring(DEEDS, "call", 10)]).rooms()), 60)
        self.assertEqual(len(Woven([line(DEEDS, "load", 60)]).rooms()), 60)

    def test_sixty_one(self):
        self.refused(TooMany, Woven(sixty_and(1)).rooms)

    def test_in_another_order(self):
        woven = Woven(sixty_and(0)[::-1])
        self.assertEqual(len(woven.rooms()), 60)
        self.assertEqual(woven.rooms()[-2:], [("p", "s58"), ("q", "s58")])
        self.refused(TooMany, Woven(sixty_and(1)[::-1]).rooms)

    def test_far_beyond_sixty(self):
        names = ["give", "take", "load", "call", "fail"]
        woven = Woven([ring(DEEDS, name, 60) for name in names])
        self.refused(TooMany, woven.rooms)
        self.refused(TooMany, made_one, woven)
        self.assertEqual(woven.at(woven.begin()), sorted(names))
        self.assertEqual(woven.to(woven.begin(), "take"), ("s0", "s1", "s0", "s0", "s0"))
        self.assertIs(woven.is_end(woven.begin()), True)

    def test_over_sixty_can_be_asked_again(self):
        woven = Woven(sixty_and(1))
        for turn in range(2):
            self.refused(TooMany, woven.rooms)
            self.assertEqual(woven.to(("s59", "p"), "call"), ("s59", "q"))


class MadeOne(RefusalCase):
    def test_of_two(self):
        machine = made_one(Woven([giver(), taker()]))
        self.assertIs(machine.deeds(), DEEDS)
        self.same_machine(machine, "r0", ["r0"],
                          [("r0", "load", "r1"), ("r1", "give", "r2"), ("r2", "load", "r3"), ("r2", "take", "r0"),
                           ("r3", "fail", "r0"), ("r3", "take", "r1")], ["fail", "give", "load", "take"])

    def test_of_one_it_takes_what_is_come_to(self):
        doors = [("m", "take", "b"), ("m", "call", "z"), ("x", "load", "m")]
        machine = made_one(Woven([Machine(DEEDS, "m", ["b", "x"], doors, ["fail"])]))
        self.same_machine(machine, "r0", ["r2"], [("r0", "call", "r1"), ("r0", "take", "r2")],
                          ["call", "fail", "load", "take"])

    def test_what_no_door_has_is_known(self):
        machine = made_one(Woven([Machine(DEEDS, "a", [], [], ["fail"]), Machine(DEEDS, "b", ["b"], [], ["call"])]))
        self.same_machine(machine, "r0", [], [], ["call", "fail"])
        self.assertIsNone(machine.behind(["call"]))
        self.assertEqual(machine.behind(["load"]), "r0")

    def test_what_is_never_done_together_is_known(self):
        one = Machine(DEEDS, "a", ["a"], [("a", "call", "a"), ("a", "load", "a")])
        other = Machine(DEEDS, "b", ["b"], [], ["call"])
        self.same_machine(made_one(Woven([one, other])), "r0", ["r0"], [("r0", "load", "r0")], ["call", "load"])

    def test_the_same_when_made_again(self):
        woven = Woven([giver(), taker()])
        one, other = made_one(woven), made_one(woven)
        again = made_one(Woven([one]))
        for machine in (other, again):
            doors = [(room, deed, one.to(room, deed)) for room in one.rooms() for deed in one.at(room)]
            self.same_machine(machine, one.begin(), one.ends(), doors, one.knows())

    def test_names_in_the_order_of_coming(self):
        machine = made_one(Woven([ring(DEEDS, "load", 6), ring(DEEDS, "call", 10)]))
        self.assertEqual(machine.rooms(), sorted("r" + str(k) for k in range(60)))
        self.assertEqual([machine.to("r0", "call"), machine.to("r0", "load")], ["r1", "r2"])
        self.assertEqual([machine.to("r1", "call"), machine.to("r1", "load")], ["r3", "r4"])
        self.assertEqual([machine.to("r2", "call"), machine.to("r2", "load")], ["r4", "r5"])

    def test_beyond_sixty_rooms(self):
        self.assertEqual(len(made_one(Woven(sixty_and(0))).rooms()), 60)
        self.refused(TooMany, made_one, Woven(sixty_and(1)))
        self.refused(TooMany, made_one, Woven(sixty_and(1)[::-1]))

    def test_it_goes_along_the_same_rows(self):
        for seed in range(60):
            machines = [some_machine(DEEDS, seed * 7 + k) for k in range(1 + seed % 4)]
            woven = Woven(machines)
            one = made_one(woven)
            self.assertEqual(one.knows(), sorted({deed for machine in machines for deed in machine.knows()}))
            names = {room: "r" + str(k) for k, room in enumerate(woven.rooms())}
            self.assertEqual(sorted(names.values()), one.rooms())
            for row in rows_of(DEEDS.names(), 4):
                parts = tuple(machine.behind(row) for machine in machines)
                self.assertEqual(one.behind(row), None if None in parts else names[parts])
            for room, name in names.items():
                at_ends = [machine.is_end(part) for machine, part in zip(machines, room)]
                self.assertIs(one.is_end(name), False not in at_ends)


class WhoseLists(RefusalCase):
    def test_the_list_of_machines_is_not_kept_or_changed(self):
        one, other = giver(), taker()
        machines = [one, other]
        woven = Woven(machines)
        self.assertEqual(machines, [one, other])
        machines.append(watcher())
        machines[0] = watcher()
        self.assertEqual(woven.begin(), ("out", "idle"))
        self.assertEqual(woven.to(("full", "idle"), "give"), ("out", "has"))
        self.assertIs(woven.is_end(("out", "idle")), True)
        self.assertEqual(len(woven.rooms()), 4)
        machines.clear()
        self.assertEqual(woven.knows(), ["fail", "give", "load", "take"])
        self.assertEqual(made_one(woven).knows(), ["fail", "give", "load", "take"])

    def test_lists_told_are_the_askers_own(self):
        woven = Woven([giver(), taker()])
        knows, at, rooms = woven.knows(), woven.at(("full", "has")), woven.rooms()
        for told in (knows, at, rooms):
            self.assertIsInstance(told, list)
            told.append("call")
            told[0] = ("z",)
        self.assertEqual(woven.knows(), ["fail", "give", "load", "take"])
        self.assertEqual(woven.at(("full", "has")), ["fail", "take"])
        self.assertEqual(woven.rooms(), [("out", "idle"), ("full", "idle"), ("out", "has"), ("full", "has")])
        self.assertIsNone(woven.to(("full", "has"), "call"))
        self.assertEqual(knows, [("z",), "give", "load", "take", "call"])

    def test_rooms_told_are_tuples(self):
        woven = Woven([giver(), taker()])
        for room in woven.rooms() + [woven.begin(), woven.to(woven.begin(), "load")]:
            self.assertIs(type(room), tuple)

    def test_a_made_one_is_its_own(self):
        woven = Woven([giver(), taker()])
        one = made_one(woven)
        one.rooms().clear()
        one.knows().append("call")
        one.at("r2").clear()
        self.assertEqual(made_one(woven).at("r2"), ["load", "take"])
        self.assertEqual(one.at("r2"), ["load", "take"])
        self.assertEqual(woven.knows(), ["fail", "give", "load", "take"])


if __name__ == "__main__":
    unittest.main()
