"""Rules: [3.1], and of the whole [0.3], [0.4]."""

import itertools
import unittest

from helper import ODD_TEXTS, ODD_THINGS, RefusalCase, line, ring, rows_of
from roomward.deeds import Deeds
from roomward.errors import NoDeed, NoRule, TooMany
from roomward.machines import Machine
from roomward.rules import Ahead, All, Answer, Hold, Most, Never, Rule, Told, Turns, keeps
from roomward.weaving import Woven, made_one

DEEDS = Deeds(["ask", "bow", "cut", "dig", "eat"], ["cut"])
OF_TWO = (Ahead, Turns, Hold, Answer)


def big():
    """An All that comes to over sixty rooms."""
    return All([Most("ask", 6), Most("bow", 6), Most("cut", 1)])


def kept_by_words(rule, row):
    """Whether a row keeps a plain rule, told by counting and not by a machine."""
    if isinstance(rule, Never):
        return rule.deed not in row
    if isinstance(rule, Most):
        return row.count(rule.deed) <= rule.many
    both = [deed for deed in row if deed in (rule.one, rule.other)]
    if isinstance(rule, Ahead):
        return both[:1] != [rule.other]
    if isinstance(rule, Turns):
        return both == ([rule.one, rule.other] * len(both))[:len(both)]
    if isinstance(rule, Hold):
        return (rule.one, rule.one) not in zip(both, both[1:])
    return True


PLAIN = (Never("ask"), Never("eat"), Most("ask", 0), Most("bow", 1), Most("bow", 3), Most("eat", 6),
         Ahead("ask", "bow"), Ahead("dig", "cut"), Turns("ask", "bow"), Turns("eat", "ask"), Hold("ask", "bow"),
         Hold("dig", "ask"), Answer("ask", "bow"), Answer("eat", "cut"))


class PlainRules(RefusalCase):
    def test_never(self):
        self.same_machine(Never("bow").machine(DEEDS), "r0", ["r0"], [], ["bow"])

    def test_most_of_none_to_six(self):
        self.same_machine(Most("bow", 0).machine(DEEDS), "r0", ["r0"], [], ["bow"])
        for many in range(7):
            rooms = ["r" + str(k) for k in range(many + 1)]
            doors = [(room, "bow", far) for room, far in zip(rooms, rooms[1:])]
            self.same_machine(Most("bow", many).machine(DEEDS), "r0", rooms, doors, ["bow"])

    def test_ahead(self):
        for one, other in (("ask", "bow"), ("bow", "ask")):
            self.same_machine(Ahead(one, other).machine(DEEDS), "r0", ["r0", "r1"],
                              [("r0", one, "r1"), ("r1", one, "r1"), ("r1", other, "r1")], [one, other])

    def test_turns(self):
        for one, other in (("ask", "bow"), ("bow", "ask")):
            self.same_machine(Turns(one, other).machine(DEEDS), "r0", ["r0", "r1"],
                              [("r0", one, "r1"), ("r1", other, "r0")], [one, other])

    def test_hold(self):
        for one, other in (("ask", "bow"), ("bow", "ask")):
            self.same_machine(Hold(one, other).machine(DEEDS), "r0", ["r0", "r1"],
                              [("r0", one, "r1"), ("r0", other, "r0"), ("r1", other, "r0")], [one, other])

    def test_answer(self):
        for one, other in (("ask", "bow"), ("bow", "ask")):
            self.same_machine(Answer(one, other).machine(DEEDS), "r0", ["r0"],
                              [("r0", one, "r1"), ("r0", other, "r0"), ("r1", one, "r1"), ("r1", other, "r0")],
                              [one, other])

    def test_machines_are_of_the_deeds_handed_in(self):
        for rule in PLAIN + (All([]), All([Never("ask")]), All([All([]), Turns("ask", "bow")])):
            self.assertIs(rule.machine(DEEDS).deeds(), DEEDS)

    def test_free_deeds_too(self):
        self.same_machine(Most("cut", 1).machine(DEEDS), "r0", ["r0", "r1"], [("r0", "cut", "r1")], ["cut"])

    def test_each_is_a_rule(self):
        for rule in PLAIN + (All([]), Told(ring(DEEDS, "ask", 2))):
            self.assertIsInstance(rule, Rule)
        kinds = (Never, Most, Ahead, Turns, Hold, Answer, All, Told)
        for kind, other in itertools.permutations(kinds, 2):
            self.assertFalse(issubclass(kind, other))

    def test_the_same_rule_with_other_deeds(self):
        others = Deeds(["zip", "bow", "ask"], ["ask"])
        for rule in (Never("ask"), Most("bow", 2), Ahead("ask", "bow"), Turns("ask", "bow"), Hold("ask", "bow"),
                     Answer("ask", "bow"), All([Never("ask"), Most("bow", 1)])):
            told = []
            for deeds in (DEEDS, others, DEEDS):
                machine = rule.machine(deeds)
                self.assertIs(machine.deeds(), deeds)
                told.append([(room, machine.is_end(room), [(deed, machine.to(room, deed)) for deed in machine.at(room)])
                             for room in machine.rooms()])
            self.assertEqual(told[0], told[1])
            self.assertEqual(told[0], told[2])
            self.refused(NoDeed, rule.machine, Deeds(["zip"]))
            self.assertIs(rule.machine(others).deeds(), others)


class Fields(RefusalCase):
    def test_deed_and_many(self):
        self.assertEqual(Never("ask").deed, "ask")
        for many in range(7):
            rule = Most("bow", many)
            self.assertEqual((rule.deed, rule.many), ("bow", many))
            self.assertIs(type(rule.many), int)

    def test_one_and_other(self):
        for kind in OF_TWO:
            self.assertEqual((kind("ask", "bow").one, kind("ask", "bow").other), ("ask", "bow"))
            self.assertEqual((kind("bow", "ask").one, kind("bow", "ask").other), ("bow", "ask"))

    def test_by_the_arguments_names(self):
        self.assertEqual(Never(deed="ask").deed, "ask")
        self.assertEqual(Most(deed="ask", many=2).many, 2)
        self.assertEqual(Ahead(first="ask", later="bow").other, "bow")
        self.assertEqual(Turns(one="ask", other="bow").one, "ask")
        self.assertEqual(Hold(deed="ask", other="bow").one, "ask")
        self.assertEqual(Answer(deed="ask", other="bow").other, "bow")
        self.assertEqual(All(rules=[]).machine(deeds=DEEDS).rooms(), ["r0"])
        self.assertEqual(Told(machine=ring(DEEDS, "ask", 1)).machine(deeds=DEEDS).rooms(), ["s0"])
        self.assertIs(keeps(rule=Never("ask"), deeds=DEEDS, row=["bow"]), True)


class PlainRulesRefused(RefusalCase):
    def test_most_of_what_is_no_such_number(self):
        for thing in (-1, 7, 8, -6, 60, 10 ** 50, -10 ** 50, None, True, False, "", "3", "a", [], [3], (), (3,), {},
                      1.0, 2.5, object()):
            self.refused(NoRule, Most, "ask", thing)
            self.refused(NoRule, Most, "nothing", thing)

    def test_one_deed_twice(self):
        for kind in OF_TWO:
            for deed in ("ask", "cut", "nothing"):
                self.refused(NoRule, kind, deed, deed)
                self.refused(NoRule, kind, deed, "".join(list(deed)))

    def test_what_is_no_deed_is_refused_when_the_machine_is_asked_for(self):
        for thing in ("nothing", "", "A", "askk", None, 0, True, [], ("ask",), {}):
            for rule in [Never(thing), Most(thing, 0), Most(thing, 3), All([Never(thing)])]:
                self.refused(NoDeed, rule.machine, DEEDS)
            for kind in OF_TWO:
                self.refused(NoDeed, kind("ask", thing).machine, DEEDS)
                self.refused(NoDeed, kind(thing, "ask").machine, DEEDS)

    def test_no_deeds_at_all(self):
        none = Deeds([])
        for rule in PLAIN:
            self.refused(NoDeed, rule.machine, none)
        self.same_machine(All([]).machine(none), "r0", ["r0"], [], [])


class Alls(RefusalCase):
    def test_of_no_rules(self):
        machine = All([]).machine(DEEDS)
        self.same_machine(machine, "r0", ["r0"], [], [])
        self.assertEqual(machine.behind(["ask", "bow"]), "r0")

    def test_of_one(self):
        for rule in PLAIN:
            machine = rule.machine(DEEDS)
            doors = [(room, deed, machine.to(room, deed)) for room in machine.rooms() for deed in machine.at(room)]
            self.same_machine(All([rule]).machine(DEEDS), "r0", machine.ends(), doors, machine.knows())

    def test_of_two(self):
        machine = All([Turns("bow", "ask"), Answer("ask", "cut")]).machine(DEEDS)
        self.same_machine(machine, "r0", ["r0", "r1"],
                          [("r0", "bow", "r1"), ("r0", "cut", "r0"), ("r1", "ask", "r2"), ("r1", "cut", "r1"),
                           ("r2", "bow", "r3"), ("r2", "cut", "r0"), ("r3", "ask", "r2"), ("r3", "cut", "r1")],
                          ["ask", "bow", "cut"])

    def test_of_four(self):
        machine = All([Most("ask", 1), Most("bow", 1), Never("cut"), Ahead("ask", "bow")]).machine(DEEDS)
        self.same_machine(machine, "r0", ["r0", "r1", "r2"], [("r0", "ask", "r1"), ("r1", "bow", "r2")],
                          ["ask", "bow", "cut"])

    def test_as_woven_and_made_one(self):
        for one, other in itertools.permutations(PLAIN, 2):
            machine = All([one, other]).machine(DEEDS)
            woven = made_one(Woven([one.machine(DEEDS), other.machine(DEEDS)]))
            doors = [(room, deed, woven.to(room, deed)) for room in woven.rooms() for deed in woven.at(room)]
            self.same_machine(machine, "r0", woven.ends(), doors, woven.knows())

    def test_of_five(self):
        self.refused(TooMany, All, [Never("ask")] * 5)
        self.refused(TooMany, All, [Never("nothing")] * 5)
        self.refused(TooMany, All, [All([])] * 9)
        self.assertEqual(All([Never("ask")] * 4).machine(DEEDS).knows(), ["ask"])

    def test_three_deep(self):
        deep = All([All([Never("ask"), All([Never("bow")])]), Never("cut")])
        self.same_machine(deep.machine(DEEDS), "r0", ["r0"], [], ["ask", "bow", "cut"])
        self.same_machine(All([All([All([])])]).machine(DEEDS), "r0", ["r0"], [], [])

    def test_four_deep(self):
        for rules in ([], [Never("ask")]):
            three = All([All([All(rules)])])
            self.refused(TooMany, All, [three])
            self.refused(TooMany, All, [Never("ask"), All([]), three])
            self.refused(TooMany, All, [three, Never("nothing")])
            self.assertIsInstance(three.machine(DEEDS), Machine)

    def test_wide_is_not_deep(self):
        two = All([All([]), All([]), All([]), All([])])
        self.assertEqual(All([two, two, two, two]).machine(DEEDS).rooms(), ["r0"])

    def test_made_again(self):
        rule = All([All([Most("ask", 2)]), Turns("ask", "bow")])
        one = rule.machine(DEEDS)
        doors = [(room, deed, one.to(room, deed)) for room in one.rooms() for deed in one.at(room)]
        self.same_machine(rule.machine(DEEDS), "r0", one.ends(), doors, one.knows())

    def test_over_sixty_rooms(self):
        self.assertEqual(len(All([Most("ask", 6), Most("bow", 6)]).machine(DEEDS).rooms()), 49)
        self.assertEqual(len(All([Most("ask", 4), Most("bow", 3), Most("cut", 2)]).machine(DEEDS).rooms()), 60)
        self.refused(TooMany, big().machine, DEEDS)
        self.refused(TooMany, All([big()]).machine, DEEDS)
        self.refused(TooMany, All([Never("ask"), All([big()])]).machine, DEEDS)
        self.refused(TooMany, All([Most("ask", 6), All([Most("bow", 6), Never("dig")]), Most("cut", 1)]).machine, DEEDS)

    def test_over_sixty_within_what_would_come_to_few(self):
        self.refused(TooMany, All([Never("ask"), Never("bow"), big()]).machine, DEEDS)

    def test_no_deed_ahead_of_too_many(self):
        for lost in (Never("nothing"), Most("nothing", 2), Ahead("ask", "nothing"), Turns("nothing", "ask"),
                     All([Never("nothing")]), All([Never("ask"), All([Hold("ask", "nothing")])])):
            for rules in ([big(), lost], [lost, big()], [Never("ask"), big(), Never("bow"), lost]):
                self.refused(NoDeed, All(rules).machine, DEEDS)
        self.refused(NoDeed, All([All([big()]), All([Never("nothing")])]).machine, DEEDS)
        self.refused(NoDeed, All([All([big(), All([Never("nothing")])])]).machine, DEEDS)
        self.refused(NoDeed, All([Most("ask", 6), Most("bow", 6), Most("cut", 6), Most("nothing", 6)]).machine, DEEDS)

    def test_the_list_of_rules_is_not_kept_or_changed(self):
        one, other = Never("ask"), Never("bow")
        rules = [one, other]
        rule = All(rules)
        rule.machine(DEEDS)
        self.assertEqual(rules, [one, other])
        rules.append(Never("nothing"))
        rules[0] = Never("dig")
        self.assertEqual(rule.machine(DEEDS).knows(), ["ask", "bow"])
        rules.clear()
        self.assertEqual(rule.machine(DEEDS).knows(), ["ask", "bow"])
        inner = []
        rule = All([All(inner)])
        inner.append(All([All([])]))
        self.assertEqual(All([rule]).machine(DEEDS).knows(), [])


class Tolds(RefusalCase):
    def own(self):
        return Machine(DEEDS, "home", ["far", "lost"], [("home", "ask", "far"), ("far", "bow", "home")], ["cut"])

    def test_alone_it_is_the_very_machine(self):
        machine = self.own()
        rule = Told(machine)
        self.assertIs(rule.machine(DEEDS), machine)
        self.assertIs(rule.machine(Deeds(["zip"])), machine)
        self.assertIs(rule.machine(DEEDS), machine)
        self.assertEqual(rule.machine(DEEDS).rooms(), ["far", "home", "lost"])

    def test_under_an_all(self):
        doors = [("r0", "ask", "r1"), ("r1", "bow", "r0")]
        self.same_machine(All([Told(self.own())]).machine(DEEDS), "r0", ["r1"], doors, ["ask", "bow", "cut"])
        self.same_machine(All([Never("dig"), All([Told(self.own())])]).machine(DEEDS), "r0", ["r1"], doors,
                          ["ask", "bow", "cut", "dig"])

    def test_under_an_all_over_sixty_rooms(self):
        self.assertEqual(len(All([Told(line(DEEDS, "ask", 60))]).machine(DEEDS).rooms()), 60)
        self.refused(TooMany, All([Told(line(DEEDS, "ask", 60)), Most("bow", 1)]).machine, DEEDS)
        self.refused(NoDeed, All([Told(line(DEEDS, "ask", 60)), Most("bow", 1), Never("nothing")]).machine, DEEDS)

    def test_it_is_no_all(self):
        self.assertEqual(All([All([All([Told(self.own())])])]).machine(DEEDS).begin(), "r0")


class Keeps(RefusalCase):
    def test_rows_that_keep_and_break(self):
        kept = ((Never("ask"), ["bow", "cut"]), (Most("ask", 2), ["ask", "bow", "ask"]), (Most("ask", 0), ["bow"]),
                (Ahead("ask", "bow"), ["ask", "bow", "bow", "ask"]), (Turns("ask", "bow"), ["ask", "bow", "ask"]),
                (Hold("ask", "bow"), ["bow", "bow", "ask", "bow", "ask"]), (Answer("ask", "bow"), ["ask", "ask"]),
                (Answer("ask", "bow"), ["bow", "ask", "bow", "bow"]), (All([]), ["ask"] * 200),
                (All([Never("ask"), Most("bow", 1)]), ["bow", "cut"]), (Told(ring(DEEDS, "ask", 3)), ["ask"] * 7))
        broken = ((Never("ask"), ["bow", "ask"]), (Most("ask", 2), ["ask", "ask", "bow", "ask"]),
                  (Most("ask", 0), ["ask"]), (Ahead("ask", "bow"), ["bow", "ask"]), (Turns("ask", "bow"), ["bow"]),
                  (Turns("ask", "bow"), ["ask", "ask"]), (Hold("ask", "bow"), ["bow", "ask", "ask"]),
                  (All([Never("ask"), Most("bow", 1)]), ["bow", "bow"]), (Told(line(DEEDS, "ask", 3)), ["ask"] * 3),
                  (All([Never("dig"), Told(line(DEEDS, "ask", 3))]), ["ask"] * 3))
        for rule, row in kept:
            self.assertIs(keeps(rule, DEEDS, row), True)
        for rule, row in broken:
            self.assertIs(keeps(rule, DEEDS, row), False)
            self.assertIs(keeps(rule, DEEDS, row + ["bow", "ask"]), False)

    def test_all_short_rows_by_words(self):
        for rule in PLAIN:
            for row in rows_of(DEEDS.names(), 4):
                self.assertIs(keeps(rule, DEEDS, row), kept_by_words(rule, row), row)

    def test_longer_rows_by_words(self):
        for rule in (Most("ask", 3), Ahead("ask", "bow"), Turns("ask", "bow"), Hold("ask", "bow")):
            for row in rows_of(["ask", "bow", "dig"], 6):
                self.assertIs(keeps(rule, DEEDS, row), kept_by_words(rule, row), row)

    def test_all_keeps_what_each_keeps(self):
        for one, other in itertools.combinations(PLAIN, 2):
            for row in rows_of(DEEDS.names(), 2):
                self.assertIs(keeps(All([one, All([other])]), DEEDS, row),
                              kept_by_words(one, row) and kept_by_words(other, row))

    def test_the_empty_row(self):
        for rule in PLAIN + (All([]), All([Never("ask")]), Told(ring(DEEDS, "ask", 2))):
            self.assertIs(keeps(rule, DEEDS, []), True)

    def test_deeds_that_the_rule_is_not_about(self):
        for rule in (Never("ask"), Most("ask", 0), Ahead("ask", "bow"), Turns("ask", "bow"), Hold("ask", "bow"),
                     Answer("ask", "bow"), All([]), All([Never("ask"), Never("bow")])):
            self.assertIs(keeps(rule, DEEDS, ["cut", "dig", "dig", "eat"] * 50), True)

    def test_refused_as_machine_then_as_behind(self):
        self.refused(NoDeed, keeps, Never("nothing"), DEEDS, [])
        self.refused(NoDeed, keeps, Ahead("ask", "nothing"), DEEDS, ["ask"])
        self.refused(TooMany, keeps, big(), DEEDS, [])
        self.refused(TooMany, keeps, big(), DEEDS, ["nothing"])
        self.refused(NoDeed, keeps, All([big(), Never("nothing")]), DEEDS, [])
        for thing in ODD_THINGS + ODD_TEXTS + ("nothing", "r0"):
            self.refused(NoDeed, keeps, Never("ask"), DEEDS, [thing])
            self.refused(NoDeed, keeps, Never("ask"), DEEDS, ["ask", thing])
            self.refused(NoDeed, keeps, All([]), DEEDS, ["bow", thing, "bow"])

    def test_rows_stay_as_they_were(self):
        row = ["bow", "ask", "bow", "ask"]
        for rule in PLAIN:
            keeps(rule, DEEDS, row)
            self.assertEqual(row, ["bow", "ask", "bow", "ask"])
        row = ["bow", "nothing"]
        self.refused(NoDeed, keeps, Never("bow"), DEEDS, row)
        self.assertEqual(row, ["bow", "nothing"])


class WhoseLists(RefusalCase):
    def test_lists_told_by_a_rules_machine(self):
        for rule in (Turns("ask", "bow"), All([Turns("ask", "bow")])):
            machine = rule.machine(DEEDS)
            for told in (machine.rooms(), machine.ends(), machine.knows(), machine.at("r0")):
                told.append("cut")
                told[0] = "z"
            for again in (machine, rule.machine(DEEDS)):
                self.same_machine(again, "r0", ["r0", "r1"], [("r0", "ask", "r1"), ("r1", "bow", "r0")],
                                  ["ask", "bow"])


if __name__ == "__main__":
    unittest.main()
