"""Rooms taken off: [4.3], [4.4], and of the whole [0.3], [0.4]."""

import unittest

from helper import DEEDS, ODD_TEXTS, ODD_THINGS, RefusalCase, house_of, line, ring, some_machine
from roomward.errors import NoRoom, TooMany
from roomward.houses import House
from roomward.machines import Machine
from roomward.rounds import left, rounds, unstopped
from roomward.rules import Ahead, All, Answer, Hold, Most, Never, Turns

SHUT = ("shut",)


def free(deed):
    return ("free", deed)


def alone(told):
    """Rounds with the first machine's room alone in each room's place."""
    return [[(room[0], reason) for room, reason in taken] for taken in told]


def big():
    return House(DEEDS, [ring(DEEDS, "go", 60), ring(DEEDS, "up", 2)], [])


class Rounds(unittest.TestCase):
    def told(self, house, expected, staying):
        """Ask for rounds and the rooms left, told by the first machine's rooms."""
        self.assertEqual(alone(rounds(house)), expected)
        self.assertEqual([room[0] for room in left(house)], staying)

    def test_nothing_goes(self):
        house = house_of("a", "a", ["a go b", "b f0 a"])
        self.assertEqual(rounds(house), [])
        self.assertEqual(left(house), [("a",), ("b",)])

    def test_one_room_that_is_an_end(self):
        house = house_of("a", "a", [])
        self.assertEqual((rounds(house), left(house)), ([], [("a",)]))

    def test_one_room_that_is_none(self):
        house = house_of("a", "", [])
        self.assertEqual((rounds(house), left(house)), ([[(("a",), SHUT)]], []))

    def test_a_deed_that_is_not_free_takes_nothing(self):
        house = house_of("a", "ab", ["a go b", "a bad c", "b bad c"], [Never("bad")])
        self.assertEqual((rounds(house), left(house)), ([], [("a", "r0"), ("b", "r0")]))

    def test_a_free_deed_that_breaks_a_rule(self):
        house = house_of("a", "abc", ["a go b", "b f0 c", "b go a"], [Never("f0")])
        self.assertEqual(rounds(house), [[(("b", "r0"), ("free", "f0"))]])
        self.assertEqual(left(house), [("a", "r0")])

    def test_a_free_deed_that_the_machines_can_not_do(self):
        plant = [Machine(DEEDS, "a", ["a"], [("a", "f0", "a"), ("a", "go", "a")]),
                 Machine(DEEDS, "k", ["k"], [], ["f0"])]
        house = House(DEEDS, plant, [Never("f0"), Never("f1")])
        self.assertEqual((rounds(house), left(house)), ([], [("a", "k", "r0", "r0")]))

    def test_one_that_leads_to_a_room_taken_off_in_a_round_ahead(self):
        house = house_of("a", "abcd", ["a go b", "b f1 c", "c f2 d", "d f0 a"], [Never("f0")])
        self.told(house, [[("d", free("f0"))], [("c", free("f2"))], [("b", free("f1"))]], ["a"])

    def test_not_one_that_leads_to_a_room_taken_off_in_this_round(self):
        house = house_of("a", "abc", ["a go b", "b f1 c", "c f0 a", "b f2 a"], [Never("f0"), Never("f2")])
        self.told(house, [[("b", free("f2")), ("c", free("f0"))]], ["a"])

    def test_shut(self):
        house = house_of("a", "a", ["a go b", "b go c", "c go b", "a up d"])
        self.told(house, [[("b", SHUT), ("d", SHUT), ("c", SHUT)]], ["a"])

    def test_shut_through_what_a_rule_forbids(self):
        house = house_of("a", "ac", ["a go b", "b bad c", "b go b"], [Never("bad")])
        self.told(house, [[("b", SHUT)]], ["a"])

    def test_shut_in_the_round_in_which_what_it_needs_goes(self):
        house = house_of("a", "ad", ["a go b", "b go c", "c f0 c", "c go d"], [Never("f0")])
        self.told(house, [[("c", free("f0")), ("b", SHUT)]], ["a", "d"])

    def test_an_end_that_is_taken_off_opens_nothing(self):
        house = house_of("a", "ac", ["a go b", "b up c", "c f1 a"], [Never("f1")])
        self.told(house, [[("c", free("f1")), ("b", SHUT)]], ["a"])

    def test_a_free_deed_into_a_shut_room(self):
        house = house_of("a", "abc", ["a go b", "b f0 x", "b go c", "x up x"])
        self.told(house, [[("x", SHUT)], [("b", free("f0"))]], ["a", "c"])

    def test_a_room_is_left_that_is_no_longer_come_to(self):
        house = house_of("a", "abc", ["a go b", "b f0 b", "b go c"], [Never("f0")])
        self.told(house, [[("b", free("f0"))]], ["a", "c"])

    def test_the_first_free_deed_rising(self):
        house = house_of("a", "ab", ["a go b", "b f2 a", "b f1 a", "b f0 a"], [Never("f2"), Never("f1")])
        self.told(house, [[("b", free("f1"))]], ["a"])
        house = house_of("a", "abc", ["a go b", "b f0 c", "b f2 c", "c f1 a", "b bad c"], [Never("f1")])
        self.told(house, [[("c", free("f1"))], [("b", free("f0"))]], ["a"])

    def test_a_free_deed_ahead_of_shut(self):
        house = house_of("a", "a", ["a go b", "b f0 b"], [Never("f0")])
        self.told(house, [[("b", free("f0"))]], ["a"])

    def test_rooms_for_a_free_deed_first_both_in_the_order_of_coming(self):
        doors = ["a bad x", "a go b", "a up c", "b go y", "c f1 a", "x go d", "x up z", "d f0 a"]
        house = house_of("a", "abcd", doors, [Never("f0"), Never("f1")])
        self.assertEqual([room[0] for room in house.rooms()], ["a", "x", "b", "c", "d", "z", "y"])
        self.told(house, [[("c", free("f1")), ("d", free("f0")), ("x", SHUT), ("z", SHUT), ("y", SHUT)]], ["a", "b"])

    def test_several_rounds_of_both_kinds(self):
        doors = ["a go b", "a up g", "b f0 c", "b go a", "c go d", "c f1 a", "d f2 e", "e up e", "g go h", "h f0 b",
                 "h go a"]
        house = house_of("a", "ad", doors)
        self.told(house, [[("e", SHUT)], [("d", free("f2"))]], ["a", "b", "g", "c", "h"])
        house = house_of("a", "ad", [door for door in doors if door != "c f1 a"])
        self.told(house, [[("e", SHUT)], [("d", free("f2")), ("c", SHUT)], [("b", free("f0"))],
                          [("h", free("f0")), ("g", SHUT)]], ["a"])

    def test_nothing_is_left(self):
        house = house_of("a", "ab", ["a f1 b", "b f0 b"], [Never("f0")])
        self.told(house, [[("b", free("f0"))], [("a", free("f1"))]], [])
        house = house_of("a", "", ["a go b"])
        self.told(house, [[("a", SHUT), ("b", SHUT)]], [])

    def test_the_rules_rooms_count(self):
        house = House(DEEDS, [ring(DEEDS, "f1", 1), ring(DEEDS, "go", 1)], [Most("f1", 1), Answer("go", "f1")])
        self.assertEqual(house.rooms(), [("s0", "s0", "r0", "r0"), ("s0", "s0", "r1", "r0"), ("s0", "s0", "r0", "r1"),
                                         ("s0", "s0", "r1", "r1")])
        first = [(("s0", "s0", "r1", "r0"), free("f1")), (("s0", "s0", "r1", "r1"), free("f1")),
                 (("s0", "s0", "r0", "r1"), SHUT)]
        self.assertEqual(rounds(house), [first, [(("s0", "s0", "r0", "r0"), free("f1"))]])
        self.assertEqual(left(house), [])

    def test_sixty_rooms_and_many_rounds(self):
        house = House(DEEDS, [line(DEEDS, "f0", 60, None, [("s59", "f1")])], [Never("f1")])
        self.assertEqual(alone(rounds(house)), [[("s59", free("f1"))]] + [[("s" + str(k), free("f0"))]
                                                                         for k in range(58, -1, -1)])
        self.assertEqual(unstopped(house, ("s0", "r0")), ("broken", ["f0"] * 59 + ["f1"]))

    def test_the_same_when_asked_again(self):
        house = house_of("a", "abcd", ["a go b", "b f1 c", "c f2 d", "d f0 a"], [Never("f0")])
        self.assertEqual(rounds(house), rounds(house))
        self.assertEqual(left(house), left(house))

    def test_by_the_arguments_names(self):
        house = house_of("a", "", [])
        self.assertEqual(rounds(house=house), [[(("a",), SHUT)]])
        self.assertEqual(left(house=house), [])
        self.assertEqual(unstopped(house=house, room=("a",)), ("shut", []))


class Unstopped(RefusalCase):
    def test_broken(self):
        house = house_of("a", "abc", ["a go b", "b f0 c"], [Never("f0")])
        self.assertEqual(unstopped(house, ("b", "r0")), ("broken", ["f0"]))

    def test_broken_along_several_rounds(self):
        house = house_of("a", "abcd", ["a go b", "b f1 c", "c f2 d", "d f0 a"], [Never("f0")])
        self.assertEqual(unstopped(house, ("d", "r0")), ("broken", ["f0"]))
        self.assertEqual(unstopped(house, ("c", "r0")), ("broken", ["f2", "f0"]))
        self.assertEqual(unstopped(house, ("b", "r0")), ("broken", ["f1", "f2", "f0"]))

    def test_shut(self):
        house = house_of("a", "a", ["a go b", "b go c", "b f0 c"])
        self.assertEqual(unstopped(house, ("b",)), ("shut", []))
        self.assertEqual(unstopped(house, ("c",)), ("shut", []))

    def test_shut_along_several_rounds(self):
        house = house_of("a", "ad", ["a go b", "a up g", "b f0 c", "b go a", "c go d", "d f2 e", "e up e", "g go h",
                                     "h f0 b", "h go a"])
        for room, row in (("e", []), ("d", ["f2"]), ("c", []), ("b", ["f0"]), ("h", ["f0", "f0"]), ("g", [])):
            self.assertEqual(unstopped(house, (room,)), ("shut", row))

    def test_by_the_reasons_deeds(self):
        # From b f0 leads to a room that goes in the same round: the reason is f2, whatever f0 would come to.
        house = house_of("a", "abc", ["a go b", "b f0 c", "c f1 a", "b f2 a"], [Never("f1"), Never("f2")])
        self.assertEqual(unstopped(house, ("b", "r0", "r0")), ("broken", ["f2"]))
        house = house_of("a", "abcd", ["a go b", "b f1 c", "b f0 x", "c f2 c", "x go x"], [Never("f2")])
        self.assertEqual(unstopped(house, ("b", "r0")), ("shut", ["f0"]))

    def test_the_pairs_kinds(self):
        house = house_of("a", "ab", ["a go b", "b f0 b"], [Never("f0")])
        told = unstopped(house, ("b", "r0"))
        self.assertIs(type(told), tuple)
        self.assertIs(type(told[1]), list)

    def test_a_room_that_is_left(self):
        house = house_of("a", "abc", ["a go b", "b f0 c"], [Never("f0")])
        self.refused(NoRoom, unstopped, house, ("a", "r0"))
        self.refused(NoRoom, unstopped, house_of("a", "a", []), ("a",))

    def test_what_is_no_room_of_the_house(self):
        house = house_of("a", "ab", ["a go b", "b f0 b", "y f0 b"], [Never("f0")])
        for thing in ODD_THINGS + ODD_TEXTS + ("b", "a", ("y", "r0"), ("b",), ("b", "r1"), ("b", "r0", "r0"),
                                               ("r0", "b"), ["b", "r0"], (("b", "r0"),), ("b", ["r0"]), ("z", "r0")):
            self.refused(NoRoom, unstopped, house, thing)
        self.assertEqual(unstopped(house, ("b", "r0")), ("broken", ["f0"]))


class TooManyFirst(RefusalCase):
    def test_where_the_house_has_over_sixty_rooms(self):
        house = big()
        self.refused(TooMany, house.rooms)
        self.refused(TooMany, rounds, house)
        self.refused(TooMany, left, house)
        for room in (house.begin(), ("nothing",), "nothing", None, []):
            self.refused(TooMany, unstopped, house, room)

    def test_just_sixty(self):
        house = House(DEEDS, [ring(DEEDS, "go", 30), ring(DEEDS, "up", 2)], [])
        self.assertEqual(rounds(house), [])
        self.assertEqual(left(house), house.rooms())
        self.assertEqual(len(left(house)), 60)
        self.refused(NoRoom, unstopped, house, house.begin())


def rounds_by_words(house):
    """The rounds once more, straight by the document's words: sets, and a search forward from each room."""
    rooms, gone, told = house.rooms(), set(), []
    while True:
        staying = [room for room in rooms if room not in gone]
        taken = []
        for room in staying:
            reasons = [deed for deed in DEEDS.free() if deed in house.can(room)
                       and (house.breaks(room, deed) or house.to(room, deed) in gone)]
            taken.extend([(room, ("free", reasons[0]))] if reasons else [])
        staying = [room for room in staying if room not in dict(taken)]
        for room in staying:
            seen, waiting = {room}, [room]
            while waiting:
                near = waiting.pop()
                fars = {house.to(near, deed) for deed in DEEDS.names()} & set(staying)
                waiting.extend(fars - seen)
                seen |= fars
            taken.extend([] if any(house.is_end(far) for far in seen) else [(room, SHUT)])
        if not taken:
            return told
        told.append(taken)
        gone |= set(dict(taken))


def some_houses():
    """Houses made up of numbers, the same ones each time."""
    kinds = ([Never("f0")], [Hold("go", "up"), Most("f1", 1)], [Turns("go", "f2")], [], [Never("bad"), Never("f1")],
             [Ahead("up", "f0"), Answer("bad", "go")], [All([Most("f2", 1), Never("f1")])], [Answer("f0", "up")])
    for seed in range(240):
        plant = [some_machine(DEEDS, seed * 11 + k, 6 - 2 * (seed % 3)) for k in range(1 + seed % 3)]
        house = House(DEEDS, plant, kinds[seed % len(kinds)])
        try:
            house.rooms()
        except TooMany:
            continue
        yield house


class ByWords(RefusalCase):
    def test_rounds_and_left(self):
        lengths = set()
        for house in some_houses():
            told = rounds(house)
            self.assertEqual(told, rounds_by_words(house))
            taken = [room for pairs in told for room, reason in pairs]
            self.assertEqual(len(taken), len(set(taken)))
            self.assertEqual(left(house), [room for room in house.rooms() if room not in taken])
            lengths.add(len(told))
        self.assertTrue({0, 1, 2, 3} <= lengths)

    def test_unstopped_rows_can_be_done_and_end_as_told(self):
        words = set()
        for house in some_houses():
            reasons = {room: reason for pairs in rounds(house) for room, reason in pairs}
            for room in house.rooms():
                if room not in reasons:
                    self.refused(NoRoom, unstopped, house, room)
                    continue
                word, row = unstopped(house, room)
                words.add((word, min(len(row), 2)))
                for place, deed in enumerate(row):
                    self.assertEqual(reasons[room], ("free", deed))
                    self.assertIs(house.breaks(room, deed), word == "broken" and place == len(row) - 1)
                    room = house.to(room, deed)
                self.assertEqual(reasons.get(room), SHUT if word == "shut" else None)
        self.assertTrue({("broken", 1), ("broken", 2), ("shut", 0), ("shut", 1), ("shut", 2)} <= words)

    def test_what_is_left_can_be_kept(self):
        for house in some_houses():
            staying = left(house)
            for room in staying:
                for deed in house.can(room):
                    if DEEDS.is_free(deed):
                        self.assertIn(house.to(room, deed), staying)

    def test_no_other_rooms_could_be_kept(self):
        # Of the rooms of small houses each set is tried that holds one which was taken off.
        tried = 0
        for house in some_houses():
            rooms = house.rooms()
            if len(rooms) > 6:
                continue
            staying = set(left(house))
            for bits in range(2 ** len(rooms)):
                kept = {room for k, room in enumerate(rooms) if bits >> k & 1}
                if not kept <= staying:
                    tried += 1
                    self.assertFalse(self.can_be_kept(house, kept))
        self.assertGreater(tried, 100)

    def can_be_kept(self, house, kept):
        """Whether free deeds lead from these rooms to these alone, and an end can be come to from each one."""
        for room in kept:
            if any(DEEDS.is_free(deed) and house.to(room, deed) not in kept for deed in house.can(room)):
                return False
        open_ones = {room for room in kept if house.is_end(room)}
        for turn in kept:
            open_ones |= {room for room in kept if open_ones & {house.to(room, deed) for deed in DEEDS.names()}}
        return open_ones == kept


class WhoseLists(RefusalCase):
    def house(self):
        return house_of("a", "abcd", ["a go b", "b f1 c", "c f2 d", "d f0 a"], [Never("f0")])

    def test_lists_told_are_the_askers_own(self):
        house = self.house()
        told, staying, pair = rounds(house), left(house), unstopped(house, ("b", "r0"))
        self.assertIsInstance(told[0], list)
        told[0].append("z")
        told[1].clear()
        told.pop()
        staying.clear()
        pair[1].append("z")
        self.assertEqual(alone(rounds(house)), [[("d", free("f0"))], [("c", free("f2"))], [("b", free("f1"))]])
        self.assertEqual(left(house), [("a", "r0")])
        self.assertEqual(unstopped(house, ("b", "r0")), ("broken", ["f1", "f2", "f0"]))
        self.assertEqual(pair, ("broken", ["f1", "f2", "f0", "z"]))
        self.assertEqual(len(house.rooms()), 4)

    def test_pairs_and_reasons_are_tuples(self):
        for taken in rounds(self.house()) + rounds(house_of("a", "", [])):
            for pair in taken:
                self.assertEqual([type(pair), type(pair[0]), type(pair[1])], [tuple, tuple, tuple])

    def test_the_house_stays_as_it_was(self):
        house = self.house()
        rooms = house.rooms()
        rounds(house), left(house), unstopped(house, ("b", "r0"))
        self.refused(NoRoom, unstopped, house, ("a", "r0"))
        self.assertEqual(house.rooms(), rooms)
        self.assertEqual([house.can(room) for room in rooms], [["go"], ["f1"], ["f2"], ["f0"]])

    def test_lists_handed_in_may_be_changed_behind(self):
        plant = [Machine(DEEDS, "a", ["a", "b"], [("a", "go", "b"), ("b", "f0", "b")])]
        rules = [Never("f0")]
        house = House(DEEDS, plant, rules)
        rules[0] = Never("f1")
        plant.clear()
        self.assertEqual(alone(rounds(house)), [[("b", free("f0"))]])
        rules.clear()
        self.assertEqual(left(house), [("a", "r0")])
        self.assertEqual(unstopped(house, ("b", "r0")), ("broken", ["f0"]))


if __name__ == "__main__":
    unittest.main()
