"""Houses: [4.1], [4.2], and of the whole [0.3], [0.4]."""

import unittest

from helper import ODD_TEXTS, ODD_THINGS, RefusalCase, line, ring, rows_of, some_machine
from roomward.deeds import Deeds
from roomward.errors import NoDeed, TooMany
from roomward.houses import House
from roomward.machines import Machine
from roomward.rules import Ahead, All, Answer, Hold, Most, Never, Told, Turns

DEEDS = Deeds(["start", "stop", "fail", "mend", "call"], ["fail"])
PLANT_DOORS = [("idle", "start", "busy"), ("busy", "stop", "idle"), ("busy", "fail", "down"), ("down", "mend", "idle")]


def pump():
    return Machine(DEEDS, "idle", ["idle"], list(PLANT_DOORS))


def lamp():
    return Machine(DEEDS, "dark", ["dark", "lit"], [("dark", "start", "lit"), ("lit", "stop", "dark")])


def bell():
    return Machine(DEEDS, "b", ["b"], [("b", "mend", "b")], ["stop"])


def big():
    """A rule that is refused with TooMany when its machine is asked for."""
    return All([Most("start", 6), Most("stop", 6), Most("fail", 1)])


class HouseOfSomeMany(RefusalCase):
    def test_one_machine_without_rules(self):
        house = House(DEEDS, [pump()], [])
        self.assertIs(house.deeds(), DEEDS)
        self.assertEqual(house.begin(), ("idle",))
        self.assertEqual(house.knows(), ["fail", "mend", "start", "stop"])
        self.assertEqual(house.rooms(), [("idle",), ("busy",), ("down",)])
        self.assertEqual([house.can(room) for room in house.rooms()], [["start"], ["fail", "stop"], ["mend"]])
        self.assertEqual([house.is_end(room) for room in house.rooms()], [True, False, False])
        self.assertEqual(house.to(("busy",), "fail"), ("down",))
        self.assertIs(house.breaks(("busy",), "fail"), False)

    def test_three_machines(self):
        house = House(DEEDS, [lamp(), bell(), pump()], [Most("start", 1)])
        self.assertEqual(house.begin(), ("dark", "b", "idle", "r0"))
        self.assertEqual(house.rooms(), [("dark", "b", "idle", "r0"), ("lit", "b", "busy", "r1"),
                                         ("lit", "b", "down", "r1"), ("lit", "b", "idle", "r1")])
        self.assertEqual(house.can(("lit", "b", "busy", "r1")), ["fail"])
        self.assertEqual(house.can(("lit", "b", "idle", "r1")), [])

    def test_four_rules(self):
        rules = [Most("start", 1), Ahead("fail", "stop"), Answer("start", "mend"), Never("call")]
        house = House(DEEDS, [pump()], rules)
        self.assertEqual(house.begin(), ("idle", "r0", "r0", "r0", "r0"))
        self.assertEqual(house.rooms(), [("idle", "r0", "r0", "r0", "r0"), ("busy", "r1", "r0", "r1", "r0"),
                                         ("down", "r1", "r1", "r1", "r0"), ("idle", "r1", "r1", "r0", "r0")])
        self.assertEqual([house.is_end(room) for room in house.rooms()], [True, False, False, True])

    def test_by_the_arguments_names(self):
        house = House(deeds=DEEDS, plant=[pump()], rules=[Never("fail")])
        room = ("busy", "r0")
        self.assertEqual(house.can(room=room), ["fail", "stop"])
        self.assertIs(house.breaks(room=room, deed="fail"), True)
        self.assertEqual(house.to(room=room, deed="stop"), ("idle", "r0"))
        self.assertIs(house.is_end(room=room), False)

    def test_none_and_four_machines(self):
        for rules in ([], [Never("fail")]):
            self.refused(TooMany, House, DEEDS, [], rules)
            self.refused(TooMany, House, DEEDS, [pump()] * 4, rules)
            self.refused(TooMany, House, DEEDS, [pump()] * 9, rules)
            self.assertEqual(len(House(DEEDS, [pump()] * 3, rules).begin()), 3 + len(rules))

    def test_five_rules(self):
        self.refused(TooMany, House, DEEDS, [pump()], [Never("fail")] * 5)
        self.assertEqual(House(DEEDS, [pump()], [Never("fail")] * 4).begin(), ("idle", "r0", "r0", "r0", "r0"))

    def test_these_ahead_of_what_a_rule_is_refused_with(self):
        lost = Never("nothing")
        self.refused(TooMany, House, DEEDS, [], [lost])
        self.refused(TooMany, House, DEEDS, [pump()] * 4, [lost])
        self.refused(TooMany, House, DEEDS, [pump()], [lost] * 5)
        self.refused(TooMany, House, DEEDS, [], [lost] * 5)

    def test_rule_by_rule(self):
        lost = Turns("start", "nothing")
        self.refused(NoDeed, House, DEEDS, [pump()], [lost])
        self.refused(NoDeed, House, DEEDS, [pump()], [Never("fail"), All([lost])])
        self.refused(TooMany, House, DEEDS, [pump()], [big()])
        self.refused(NoDeed, House, DEEDS, [pump()], [lost, big()])
        self.refused(TooMany, House, DEEDS, [pump()], [big(), lost])
        self.refused(TooMany, House, DEEDS, [pump()], [Never("fail"), All([big()]), Never("call"), lost])
        self.refused(NoDeed, House, DEEDS, [pump()], [Never("fail"), All([big(), lost])])

    def test_told_rules_and_alls(self):
        own = Machine(DEEDS, "odd", ["even"], [("odd", "start", "even"), ("even", "start", "odd")])
        house = House(DEEDS, [pump()], [Told(own), All([Told(own), Never("fail")]), All([])])
        self.assertEqual(house.begin(), ("idle", "odd", "r0", "r0"))
        self.assertEqual(house.to(house.begin(), "start"), ("busy", "even", "r1", "r0"))
        self.assertIs(house.breaks(("busy", "even", "r1", "r0"), "fail"), True)
        self.assertIs(house.is_end(("idle", "even", "r1", "r0")), True)
        self.assertIs(house.is_end(("idle", "even", "r0", "r0")), False)
        self.assertIs(house.is_end(("idle", "odd", "r1", "r0")), False)


class WhatIsDone(RefusalCase):
    def house(self):
        return House(DEEDS, [pump(), lamp()], [Hold("start", "mend"), Never("fail"), Never("call")])

    def test_knows_without_what_only_rules_know(self):
        self.assertEqual(self.house().knows(), ["fail", "mend", "start", "stop"])
        self.assertEqual(House(DEEDS, [lamp()], [Never("fail"), Hold("mend", "call")]).knows(), ["start", "stop"])
        self.assertEqual(House(DEEDS, [Machine(DEEDS, "a", [], [], ["call"])], []).knows(), ["call"])

    def test_rooms_that_are_come_to(self):
        house = self.house()
        idle, busy, spent = house.rooms()
        self.assertEqual((idle, busy, spent), (("idle", "dark", "r0", "r0", "r0"), ("busy", "lit", "r1", "r0", "r0"),
                                               ("idle", "dark", "r1", "r0", "r0")))
        self.assertEqual((house.can(idle), house.can(busy), house.can(spent)), (["start"], ["fail", "stop"], ["start"]))
        told = {(idle, "start"): busy, (busy, "stop"): spent}
        broken = [(busy, "fail"), (spent, "start")]
        for room in house.rooms():
            for deed in DEEDS.names():
                self.assertEqual(house.to(room, deed), told.get((room, deed)), (room, deed))
                self.assertIs(house.breaks(room, deed), (room, deed) in broken, (room, deed))

    def test_other_rooms(self):
        house = self.house()
        room = ("down", "lit", "r1", "r0", "r0")
        self.assertNotIn(room, house.rooms())
        self.assertEqual(house.can(room), ["mend"])
        self.assertIs(house.breaks(room, "mend"), False)
        self.assertEqual(house.to(room, "mend"), ("idle", "lit", "r0", "r0", "r0"))
        self.assertIsNone(house.to(("busy", "dark", "r0", "r0", "r0"), "stop"))
        self.assertIs(house.breaks(("busy", "dark", "r0", "r0", "r0"), "fail"), True)
        self.assertIs(house.is_end(("idle", "lit", "r1", "r0", "r0")), True)

    def test_what_the_machines_can_not_do_breaks_nothing(self):
        house = self.house()
        room = ("down", "lit", "r1", "r0", "r0")
        for deed in ("start", "fail", "call", "stop"):
            self.assertIs(house.breaks(room, deed), False)
            self.assertIsNone(house.to(room, deed))

    def test_a_deed_that_only_rules_know_is_never_done(self):
        for rule in (Never("call"), Most("call", 3), Turns("call", "start"), Told(ring(DEEDS, "call", 2))):
            house = House(DEEDS, [pump()], [rule])
            for room in house.rooms():
                self.assertNotIn("call", house.can(room))
                self.assertIs(house.breaks(room, "call"), False)
                self.assertIsNone(house.to(room, "call"))

    def test_a_deed_that_nobody_knows(self):
        house = House(DEEDS, [pump()], [Never("stop")])
        self.assertIs(house.breaks(house.begin(), "call"), False)
        self.assertIsNone(house.to(house.begin(), "call"))

    def test_it_breaks_where_any_rule_breaks(self):
        for rules in ([Never("start"), Most("start", 2)], [Most("start", 2), Never("start")],
                      [Answer("start", "stop"), Never("call"), Never("start")]):
            house = House(DEEDS, [pump()], rules)
            self.assertEqual(house.can(house.begin()), ["start"])
            self.assertIs(house.breaks(house.begin(), "start"), True)
            self.assertIsNone(house.to(house.begin(), "start"))
            self.assertEqual(house.rooms(), [house.begin()])

    def test_ends(self):
        house = House(DEEDS, [pump(), lamp()], [Answer("start", "stop"), Answer("fail", "mend")])
        self.assertIs(house.is_end(("idle", "lit", "r0", "r0")), True)
        for room in (("busy", "lit", "r0", "r0"), ("idle", "lit", "r1", "r0"), ("idle", "lit", "r0", "r1"),
                     ("down", "dark", "r1", "r1")):
            self.assertIs(house.is_end(room), False)
        dim = Machine(DEEDS, "x", [], [])
        self.assertIs(House(DEEDS, [pump(), dim], []).is_end(("idle", "x")), False)

    def test_what_is_no_deed(self):
        house = self.house()
        for thing in ODD_THINGS + ODD_TEXTS + ("nothing", "idle"):
            self.refused(NoDeed, house.breaks, house.begin(), thing)
            self.refused(NoDeed, house.to, house.begin(), thing)
        self.assertEqual(house.to(house.begin(), "start"), ("busy", "lit", "r1", "r0", "r0"))

    def test_as_machines_and_rules_go_along_rows(self):
        kinds = ([Never("fail")], [Hold("start", "stop"), Most("mend", 1)], [Turns("start", "fail")], [],
                 [Ahead("mend", "start"), Answer("call", "stop")], [All([Most("call", 1), Never("stop")])])
        for seed in range(48):
            plant = [some_machine(DEEDS, seed * 3 + k, 3) for k in range(1 + seed % 3)]
            rules = kinds[seed % len(kinds)]
            house = House(DEEDS, plant, rules)
            machines = plant + [rule.machine(DEEDS) for rule in rules]
            come = {}
            for row in rows_of(house.knows(), 4):
                parts = tuple(machine.behind(row) for machine in machines)
                if None not in parts:
                    come.setdefault(parts, row)
            self.assertEqual([room for room in house.rooms() if room in come], list(come))
            for room, row in come.items():
                self.assertIs(house.is_end(room), all(m.is_end(part) for m, part in zip(machines, room)))
                for deed in house.knows():
                    parts = tuple(machine.behind(row + [deed]) for machine in machines)
                    can = None not in parts[:len(plant)]
                    self.assertIs(deed in house.can(room), can)
                    self.assertIs(house.breaks(room, deed), can and None in parts)
                    self.assertEqual(house.to(room, deed), None if None in parts else parts)


class RoomsComeTo(RefusalCase):
    def test_in_the_order_of_coming(self):
        doors = [("a", "stop", "b"), ("a", "call", "c"), ("c", "start", "d"), ("b", "call", "e"), ("c", "mend", "b"),
                 ("d", "call", "g"), ("e", "call", "f"), ("a", "fail", "z")]
        house = House(DEEDS, [Machine(DEEDS, "a", [], doors)], [Never("fail")])
        self.assertEqual([room[0] for room in house.rooms()], ["a", "c", "b", "d", "e", "g", "f"])

    def test_not_through_what_breaks_a_rule(self):
        house = House(DEEDS, [line(DEEDS, "start", 10)], [Most("start", 3)])
        self.assertEqual(house.rooms(), [("s" + str(k), "r" + str(k)) for k in range(4)])

    def sixty_and(self, more):
        many = 59 + more
        far = line(DEEDS, "start", many, None, [("s" + str(many - 1), "call")])
        return House(DEEDS, [far], [Most("call", 1)])

    def test_just_sixty(self):
        self.assertEqual(len(House(DEEDS, [line(DEEDS, "start", 60)], []).rooms()), 60)
        rooms = self.sixty_and(0).rooms()
        self.assertEqual(len(rooms), 60)
        self.assertEqual(rooms[-2:], [("s58", "r0"), ("s58", "r1")])
        house = House(DEEDS, [ring(DEEDS, "start", 5), ring(DEEDS, "stop", 4)], [Told(ring(DEEDS, "call", 60))])
        self.assertEqual(len(house.rooms()), 20)
        house = House(DEEDS, [ring(DEEDS, "start", 5), ring(DEEDS, "stop", 4)], [Told(ring(DEEDS, "stop", 12))])
        self.assertEqual(len(house.rooms()), 60)

    def test_sixty_one(self):
        house = self.sixty_and(1)
        self.refused(TooMany, house.rooms)
        self.refused(TooMany, house.rooms)

    def test_over_sixty_can_be_asked_at_single_rooms(self):
        house = House(DEEDS, [ring(DEEDS, "start", 60), ring(DEEDS, "stop", 60), ring(DEEDS, "fail", 60)],
                      [Hold("start", "stop")])
        self.refused(TooMany, house.rooms)
        begin = ("s0", "s0", "s0", "r0")
        self.assertEqual(house.begin(), begin)
        self.assertEqual(house.knows(), ["fail", "start", "stop"])
        self.assertEqual(house.can(begin), ["fail", "start", "stop"])
        self.assertEqual(house.to(begin, "start"), ("s1", "s0", "s0", "r1"))
        self.assertIs(house.breaks(("s1", "s0", "s0", "r1"), "start"), True)
        self.assertIs(house.breaks(begin, "start"), False)
        self.assertEqual(house.to(("s9", "s59", "s0", "r1"), "stop"), ("s9", "s0", "s0", "r0"))
        self.assertIs(house.is_end(("s9", "s59", "s7", "r1")), True)


class WhoseLists(RefusalCase):
    def test_lists_handed_in_are_not_kept_or_changed(self):
        one, rule = pump(), Never("fail")
        plant, rules = [one], [rule]
        house = House(DEEDS, plant, rules)
        self.assertEqual((plant, rules), ([one], [rule]))
        plant.append(lamp())
        rules.append(Never("start"))
        self.assertEqual(house.rooms(), [("idle", "r0"), ("busy", "r0")])
        plant[0], rules[0] = lamp(), Never("stop")
        self.assertEqual(house.rooms(), [("idle", "r0"), ("busy", "r0")])
        self.assertEqual(house.begin(), ("idle", "r0"))
        self.assertEqual(house.knows(), ["fail", "mend", "start", "stop"])
        plant.clear()
        rules.clear()
        self.assertIs(house.breaks(("busy", "r0"), "fail"), True)
        self.assertIs(house.is_end(("idle", "r0")), True)
        self.assertEqual(house.to(("busy", "r0"), "stop"), ("idle", "r0"))

    def test_lists_told_are_the_askers_own(self):
        house = House(DEEDS, [pump()], [Never("fail")])
        knows, can, rooms = house.knows(), house.can(("busy", "r0")), house.rooms()
        for told in (knows, can, rooms):
            self.assertIsInstance(told, list)
            told.append("call")
            told[0] = ("z",)
        self.assertEqual(house.knows(), ["fail", "mend", "start", "stop"])
        self.assertEqual(house.can(("busy", "r0")), ["fail", "stop"])
        self.assertEqual(house.rooms(), [("idle", "r0"), ("busy", "r0")])
        self.assertEqual(can, [("z",), "stop", "call"])

    def test_rooms_told_are_tuples(self):
        house = House(DEEDS, [pump()], [])
        for room in house.rooms() + [house.begin(), house.to(house.begin(), "start")]:
            self.assertIs(type(room), tuple)

    def test_what_is_refused_changes_nothing(self):
        plant, rules = [pump()], [Never("fail"), Never("nothing")]
        self.refused(NoDeed, House, DEEDS, plant, rules)
        self.assertEqual((len(plant), len(rules)), (1, 2))
        rules.pop()
        house = House(DEEDS, plant, rules)
        self.refused(NoDeed, house.to, house.begin(), "nothing")
        self.assertEqual(house.rooms(), [("idle", "r0"), ("busy", "r0")])


if __name__ == "__main__":
    unittest.main()
