"""Least machines: [8.1], [8.2], and of the whole [0.2] (e), [0.3], [0.4]."""

import unittest

from helper import (DEEDS, ODD_TEXTS, ODD_THINGS, RefusalCase, line, machine_of, ring, rows_of, some_wardens,
                    warden_of)
from roomward.errors import NoRoom
from roomward.houses import House
from roomward.least import classes, least, parted
from roomward.machines import Machine
from roomward.rules import Most, Never
from roomward.warden import Warden
from roomward.weaving import Woven

# Numbered a 0, b 1, c 2, d 3, e 4: b and c are alike, d is no end, behind e nothing is let.
DOORS = ["a bad b", "a go c", "a up d", "b go a", "c go a", "d go e", "d up d"]


def some_warden():
    return warden_of("a", "abce", DOORS)


class Classes(RefusalCase):
    def test_rising_and_by_their_first_ones(self):
        self.assertEqual([room[0] for room in some_warden().rooms()], ["a", "b", "c", "d", "e"])
        self.assertEqual(classes(some_warden()), [[0], [1, 2], [3], [4]])

    def test_classes_that_lie_through_one_another(self):
        warden = warden_of("a", "abcdef", ["a bad b", "a go c", "a up d", "b go a", "c up e", "d go a", "e up f",
                                           "f bad b", "f go c", "f up d"])
        self.assertEqual([room[0] for room in warden.rooms()], ["a", "b", "c", "d", "e", "f"])
        self.assertEqual(classes(warden), [[0, 5], [1, 3], [2], [4]])

    def test_one_class(self):
        self.assertEqual(classes(warden_of("a", "a", [])), [[0]])
        self.assertEqual(classes(Warden(House(DEEDS, [ring(DEEDS, "go", 60)], []))), [list(range(60))])

    def test_each_room_by_itself(self):
        warden = Warden(House(DEEDS, [line(DEEDS, "go", 60)], []))
        self.assertEqual(classes(warden), [[number] for number in range(60)])

    def test_what_is_let_counts_not_what_is_forbidden(self):
        # At b up is forbidden, at c it can't be done: neither lets it.
        warden = warden_of("a", "abc", ["a go b", "a bad c", "b up x", "b go a", "c go a"])
        self.assertEqual([warden.forbids(room) for room in warden.rooms()], [[], [], ["up"]])
        self.assertEqual(classes(warden), [[0], [1, 2]])

    def test_ends_of_rules_count(self):
        told = Machine(DEEDS, "k", ["k"], [("k", "go", "l"), ("l", "go", "k")])
        warden = Warden(House(DEEDS, [ring(DEEDS, "go", 1), told], []))
        self.assertEqual(classes(warden), [[0], [1]])

    def test_by_the_arguments_names(self):
        warden = some_warden()
        self.assertEqual(classes(warden=warden), [[0], [1, 2], [3], [4]])
        self.assertEqual(parted(warden=warden, one=0, other=3), [])
        self.assertEqual(least(warden=warden).begin(), "r0")


class Parted(RefusalCase):
    def told(self, warden, one, other, row):
        """Ask for a row, told either way round."""
        found = parted(warden, one, other)
        self.assertEqual((found, parted(warden, other, one)), (row, row))
        self.assertIn(type(found), (list, type(None)))

    def test_alike_rooms(self):
        self.told(some_warden(), 1, 2, None)

    def test_a_room_and_itself(self):
        for number in range(5):
            self.told(some_warden(), number, number, None)

    def test_by_an_end_alone(self):
        for number in (0, 1, 2, 4):
            self.told(some_warden(), 3, number, [])

    def test_by_one_deed(self):
        self.told(some_warden(), 0, 4, ["bad"])
        self.told(some_warden(), 1, 4, ["go"])
        self.told(some_warden(), 0, 1, ["bad"])

    def test_by_one_deed_that_comes_to_an_end(self):
        warden = warden_of("a", "bx", ["a bad b", "a go c", "b go d", "b f0 x", "c go x", "d up x"])
        self.assertEqual([room[0] for room in warden.rooms()], ["a", "b", "c", "x", "d"])
        self.told(warden, 0, 2, ["bad"])
        warden = warden_of("a", "x", ["a bad b", "a up c", "b go d", "c go x", "d go x"])
        self.told(warden, 1, 2, ["go"])

    def test_of_one_length_the_least_one(self):
        # Both let go, and one of them comes to an end by it; bad is let by one alone.
        doors = ["a go b", "a up c", "b go x", "c go d", "d go x"]
        warden = warden_of("a", "ax", doors)
        self.assertEqual([room[0] for room in warden.rooms()], ["a", "b", "c", "x", "d"])
        self.told(warden, 1, 2, ["go"])
        self.told(warden_of("a", "ax", doors + ["c bad x"]), 1, 2, ["bad"])
        self.told(warden_of("a", "ax", doors + ["b up x"]), 1, 2, ["go"])

    def test_by_several_deeds(self):
        warden = Warden(House(DEEDS, [line(DEEDS, "go", 9)], []))
        for one in range(9):
            for other in range(one + 1, 9):
                self.told(warden, one, other, ["go"] * (9 - other))
        doors = ["a bad b", "a go c", "b go d", "b up e", "c go g", "c up h", "d up i", "e f0 i", "g up j", "h f1 j",
                 "i go a"]
        warden = warden_of("a", "abcdeghij", doors)
        names = [room[0] for room in warden.rooms()]
        # Behind go both let up, behind which i and j differ; behind up just one lets f0, which comes sooner.
        self.told(warden, names.index("b"), names.index("c"), ["up", "f0"])
        warden = warden_of("a", "abcdeghij", [door for door in doors if door not in ("e f0 i", "h f1 j")])
        names = [room[0] for room in warden.rooms()]
        self.told(warden, names.index("b"), names.index("c"), ["go", "up", "go"])

    def test_of_several_shortest_rows_the_least_list(self):
        # Of two deeds bad go, bad up and go bad part them.
        doors = ["a bad b", "a go c", "b bad d", "b go e", "c bad g", "c go h", "d up i", "g go i", "h bad i"]
        warden = warden_of("a", "abcdeghi", doors)
        names = [room[0] for room in warden.rooms()]
        self.told(warden, names.index("b"), names.index("c"), ["bad", "go"])

    def test_sixty_rooms(self):
        warden = Warden(House(DEEDS, [line(DEEDS, "go", 60)], []))
        self.told(warden, 0, 1, ["go"] * 59)
        self.told(warden, 0, 59, ["go"])
        warden = Warden(House(DEEDS, [ring(DEEDS, "go", 30), ring(DEEDS, "up", 2)], []))
        self.told(warden, 0, 59, None)

    def test_what_is_no_number_of_a_room(self):
        warden = some_warden()
        things = [thing for thing in ODD_THINGS if type(thing) is not int or not 0 <= thing < 5]
        for thing in things + list(ODD_TEXTS) + [5, 6, 60, -1, -5, "0", "a", (0,), [0], 0.0, 1.0, ("a",), warden]:
            for number in range(5):
                self.refused(NoRoom, parted, warden, thing, number)
                self.refused(NoRoom, parted, warden, number, thing)
            self.refused(NoRoom, parted, warden, thing, thing)
            self.refused(NoRoom, parted, warden, thing, None)
        self.told(warden, 0, 4, ["bad"])


class Least(RefusalCase):
    def test_rooms_begin_ends_doors_and_what_it_knows(self):
        self.same_machine(least(some_warden()), "r0", ["r0", "r1", "r3"],
                          [("r0", "bad", "r1"), ("r0", "go", "r1"), ("r0", "up", "r2"), ("r1", "go", "r0"),
                           ("r2", "go", "r3"), ("r2", "up", "r2")], ["bad", "go", "up"])

    def test_one_room(self):
        self.same_machine(least(warden_of("a", "a", [])), "r0", ["r0"], [], [])
        self.same_machine(least(Warden(House(DEEDS, [ring(DEEDS, "go", 60)], []))), "r0", ["r0"],
                          [("r0", "go", "r0")], ["go"])

    def test_sixty_rooms(self):
        names = ["r" + str(k) for k in range(60)]
        self.same_machine(least(Warden(House(DEEDS, [line(DEEDS, "go", 60)], []))), "r0", names,
                          [(near, "go", far) for near, far in zip(names, names[1:])], ["go"])

    def test_it_knows_what_the_machines_know_alone(self):
        plant = [machine_of("a", "a", ["a go a", "a up b"], ["f0"]), machine_of("k", "k", [], ["bad"])]
        machine = least(Warden(House(DEEDS, plant, [Never("up"), Never("f1"), Most("f2", 3)])))
        self.same_machine(machine, "r0", ["r0"], [("r0", "go", "r0")], ["bad", "f0", "go", "up"])
        self.assertIs(machine.deeds(), DEEDS)

    def test_in_the_order_of_coming(self):
        # The rooms behind bad and go are alike: so the one behind up is the third.
        doors = ["a bad b", "a go c", "a up d", "b up e", "c up g", "d go h", "h bad a", "e bad e", "g bad e"]
        warden = warden_of("a", "adh", doors + ["e up a"] + ["g up a"])
        self.same_machine(least(warden), "r0", ["r0", "r2", "r4"],
                          [("r0", "bad", "r1"), ("r0", "go", "r1"), ("r0", "up", "r2"), ("r1", "up", "r3"),
                           ("r2", "go", "r4"), ("r3", "bad", "r3"), ("r3", "up", "r0"), ("r4", "bad", "r0")],
                          ["bad", "go", "up"])


def parts(warden, row, one, other):
    """Whether a row parts two rooms, by the document's words."""
    lets, rooms = [], []
    for room in (one, other):
        for deed in row:
            room = warden.to(room, deed) if room is not None else None
        rooms.append(room)
        lets.append(room is not None)
    if all(lets):
        return warden.house().is_end(rooms[0]) != warden.house().is_end(rooms[1])
    return any(lets)


class ByWords(RefusalCase):
    def test_parted(self):
        lengths = set()
        for warden in some_wardens():
            rooms = warden.rooms()
            if len(rooms) > 7:
                continue
            rows = list(rows_of(warden.house().knows(), 3))
            for one, room in enumerate(rooms):
                for other, far in enumerate(rooms):
                    found = parted(warden, one, other)
                    short = next((row for row in rows if parts(warden, row, room, far)), None)
                    if short is not None or found is None or len(found) <= 3:
                        self.assertEqual(found, short)
                    else:
                        self.assertTrue(parts(warden, found, room, far))
                    lengths.add(found if found is None else len(found))
        self.assertTrue({None, 0, 1, 2, 3} <= lengths)

    def test_classes(self):
        several = 0
        for warden in some_wardens():
            rooms, told = warden.rooms(), []
            plain = {room: (warden.house().is_end(room), warden.lets(room)) for room in rooms}
            apart = {(one, far) for one in rooms for far in rooms if plain[one] != plain[far]}
            many = -1
            while many != len(apart):
                many = len(apart)
                apart |= {(one, far) for one in rooms for far in rooms if warden.lets(one) == warden.lets(far)
                          and any((warden.to(one, deed), warden.to(far, deed)) in apart for deed in warden.lets(one))}
            for number, room in enumerate(rooms):
                alike = [k for k, far in enumerate(rooms) if (room, far) not in apart]
                told.extend([alike] if alike[0] == number else [])
            self.assertEqual(classes(warden), told)
            several += len(told) < len(rooms)
        self.assertGreater(several, 9)

    def test_classes_and_parted_agree(self):
        for warden in some_wardens():
            place = {number: alike for alike in classes(warden) for number in alike}
            for one in list(place)[:12]:
                for other in list(place)[:12]:
                    self.assertEqual(parted(warden, one, other) is None, place[one] == place[other])

    def test_least(self):
        for warden in some_wardens():
            rooms, alike, machine = warden.rooms(), classes(warden), least(warden)
            names = {room: k for k, numbers in enumerate(alike) for room in [rooms[number] for number in numbers]}
            come, waiting = {names[rooms[0]]: "r0"}, [rooms[0]]
            doors, ends = [], []
            while waiting:
                room = waiting.pop(0)
                for deed in warden.lets(room):
                    far = warden.to(room, deed)
                    if names[far] not in come:
                        come[names[far]] = "r" + str(len(come))
                        waiting.append(far)
                    doors.append((come[names[room]], deed, come[names[far]]))
                ends.extend([come[names[room]]] if warden.house().is_end(room) else [])
            self.assertEqual(len(come), len(alike))
            self.same_machine(machine, "r0", ends, doors, warden.house().knows())

    def test_woven_with_the_house_s_machines_it_lets_just_the_warden_s_rows(self):
        for warden in some_wardens():
            woven = Woven([least(warden)] + warden.house().plant.machines)
            pairs = [(woven.begin(), warden.begin())]
            for near, room in pairs:
                self.assertEqual(woven.at(near), warden.lets(room))
                for deed in warden.lets(room):
                    far = (woven.to(near, deed), warden.to(room, deed))
                    pairs.extend([] if far in pairs else [far])

    def test_by_itself_it_goes_along_the_warden_s_rows(self):
        for warden in list(some_wardens())[:12]:
            machine = least(warden)
            for row in rows_of(warden.house().knows(), 4):
                room = warden.behind(row)
                name = machine.behind(row)
                self.assertEqual(name is None, room is None)
                if room is not None:
                    self.assertIs(machine.is_end(name), warden.house().is_end(room))

    def test_of_any_two_of_its_rooms_a_row_tells_them_apart(self):
        for warden in some_wardens():
            machine = least(warden)
            again = Warden(House(machine.deeds(), [machine], []))
            self.assertEqual([room[0] for room in again.rooms()], ["r" + str(k) for k in range(len(machine.rooms()))])
            self.assertEqual(classes(again), [[number] for number in range(len(machine.rooms()))])


class WhoseLists(RefusalCase):
    def test_lists_told_are_the_askers_own(self):
        warden = some_warden()
        for ask in (lambda: classes(warden), lambda: classes(warden)[1], lambda: parted(warden, 0, 4),
                    lambda: least(warden).rooms(), lambda: least(warden).ends(), lambda: least(warden).knows()):
            told, kept = ask(), ask()
            self.assertIs(type(told), list)
            told.append("z")
            told[0] = "z"
            self.assertEqual(ask(), kept)
        told = classes(warden)
        told[1].append(9)
        self.assertEqual((told[0], classes(warden)), ([0], [[0], [1, 2], [3], [4]]))
        self.assertEqual(len(least(warden).rooms()), 4)

    def test_the_warden_stays_as_it_was(self):
        warden = some_warden()
        rooms = warden.rooms()
        classes(warden), parted(warden, 0, 3), least(warden)
        self.refused(NoRoom, parted, warden, 0, 9)
        self.assertEqual(warden.rooms(), rooms)
        self.assertEqual([warden.lets(room) for room in rooms], [["bad", "go", "up"], ["go"], ["go"], ["go", "up"], []])


if __name__ == "__main__":
    unittest.main()
