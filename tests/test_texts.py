"""Texts: [9.3], [9.4], and of the whole [0.3], [0.4]."""

import random
import unittest

from helper import DEEDS, ODD_TEXTS, ODD_THINGS, RefusalCase, line, machine_of, ring, some_machine
from roomward.deeds import Deeds
from roomward.errors import NoRule, NoText, TooMany
from roomward.houses import House
from roomward.machines import Machine
from roomward.rules import Ahead, All, Answer, Hold, Most, Never, Told, Turns
from roomward.texts import read, written

# All that a text can tell.
TEXT = """deed bad
free f0
free f1
deed go
deed up
machine b
end a
end b
door a f0 b
door a go a
door b up a
knows bad
knows f1
machine k
rule never bad
rule most f0 3
rule ahead go up
rule turns up go
"""
DEEDS_ROWS = "deed go\nfree f0\n"
SHORT = DEEDS_ROWS + "machine a\n"


def deeds_of():
    return Deeds(["up", "go", "f1", "bad", "f0"], ["f1", "f0"])


def told_house():
    """What the text tells: the deeds, the machines and the rules."""
    deeds = deeds_of()
    plant = [Machine(deeds, "b", ["b", "a", "b"], [("b", "up", "a"), ("a", "go", "a"), ("a", "f0", "b")],
                     ["f1", "bad", "up"]),
             Machine(deeds, "k", [], [])]
    return deeds, plant, [Never("bad"), Most("f0", 3), Ahead("go", "up"), Turns("up", "go")]


class Written(RefusalCase):
    def test_rows_in_the_told_order(self):
        self.assertEqual(written(*told_house()), TEXT)

    def test_by_the_arguments_names(self):
        deeds, plant, rules = told_house()
        self.assertEqual(written(deeds=deeds, plant=plant, rules=rules), TEXT)

    def test_deeds_rising_free_or_not(self):
        self.assertEqual(written(Deeds(["b", "a9", "a"], ["a9"]), [], []), "deed a\nfree a9\ndeed b\n")
        self.assertEqual(written(Deeds(["b", "a"], ["b", "a"]), [], []), "free a\nfree b\n")
        self.assertEqual(written(Deeds([]), [], []), "")

    def rows(self, machine):
        """The rows of a machine, those of its deeds aside."""
        text = written(DEEDS, [machine], [])
        ahead = written(DEEDS, [], [])
        self.assertTrue(text.startswith(ahead) and text.endswith("\n"))
        return text[len(ahead):-1].split("\n")

    def test_a_machine_of_its_begin_alone(self):
        self.assertEqual(self.rows(machine_of("a", [], [])), ["machine a"])

    def test_ends_rising_each_once(self):
        self.assertEqual(self.rows(machine_of("c", ["c", "a", "b10", "b9", "a"], [])),
                         ["machine c", "end a", "end b10", "end b9", "end c"])

    def test_doors_rising(self):
        doors = ["b up a", "b f0 c", "a up a", "c go b", "a bad c", "b go b"]
        self.assertEqual(self.rows(machine_of("b", [], doors)),
                         ["machine b", "door a bad c", "door a up a", "door b f0 c", "door b go b", "door b up a",
                          "door c go b"])

    def test_deeds_known_besides_rising(self):
        self.assertEqual(self.rows(machine_of("a", "a", ["a go b", "b f0 b"], ["up", "f2", "go", "bad", "up", "f0"])),
                         ["machine a", "end a", "door a go b", "door b f0 b", "knows bad", "knows f2", "knows up"])

    def test_several_machines_and_rules_in_their_order(self):
        plant = [machine_of("k", "k", ["k go k"], ["up"]), machine_of("a", "", ["a up b"]), machine_of("k", "", [])]
        text = written(DEEDS, plant, [Never("up"), Never("bad"), Most("go", 0), Never("up")])
        self.assertEqual(text.split("\n")[6:], ["machine k", "end k", "door k go k", "knows up", "machine a",
                                                "door a up b", "machine k", "rule never up", "rule never bad",
                                                "rule most go 0", "rule never up", ""])

    def test_each_of_the_six_rules(self):
        for rule, row in ((Never("go"), "never go"), (Most("f0", 0), "most f0 0"), (Most("f0", 6), "most f0 6"),
                          (Ahead("up", "go"), "ahead up go"), (Turns("up", "go"), "turns up go"),
                          (Hold("up", "f0"), "hold up f0"), (Answer("up", "bad"), "answer up bad")):
            self.assertEqual(written(DEEDS, [], [rule]), written(DEEDS, [], []) + "rule " + row + "\n")

    def test_more_rules_and_machines_than_a_house_takes(self):
        machine = machine_of("a", "a", [])
        text = written(DEEDS, [machine] * 4, [Never("go")] * 5)
        self.assertEqual(text, written(DEEDS, [], []) + "machine a\nend a\n" * 4 + "rule never go\n" * 5)

    def test_other_rules(self):
        machine = machine_of("a", "a", ["a go a"])
        for rule in (All([]), All([Never("go")]), All([All([])]), Told(machine)):
            for ahead in range(6):
                for behind in range(6):
                    rules = [Never("go")] * ahead + [rule] + [Hold("go", "up")] * behind
                    self.refused(NoRule, written, DEEDS, [machine], rules)
        self.refused(NoRule, written, DEEDS, [], [Told(machine)] * 9)
        self.refused(NoRule, written, DEEDS, [], [All([Never("go"), Never("nothing")])])

    def test_a_long_text_is_written(self):
        plant = [line(DEEDS, "go", 60, loops=[("s" + str(k), "up") for k in range(60)])] * 3
        self.assertGreater(len(written(DEEDS, plant, [])), 6000)


class WrittenAndRead(RefusalCase):
    def same(self, one, other):
        """Ask that two machines are the same, but for the Deeds that they were made of."""
        doors = [(room, deed, other.to(room, deed)) for room in other.rooms() for deed in other.at(room)]
        self.same_machine(one, other.begin(), other.ends(), doors, other.knows())

    def test_the_triple(self):
        told = read(TEXT)
        self.assertEqual([type(thing) for thing in told], [Deeds, list, list])
        self.assertIs(type(told), tuple)
        deeds, plant, rules = told
        self.assertEqual((deeds.names(), deeds.free()), (["bad", "f0", "f1", "go", "up"], ["f0", "f1"]))
        self.assertEqual(len(plant), 2)
        self.same_machine(plant[0], "b", ["a", "b"], [("a", "f0", "b"), ("a", "go", "a"), ("b", "up", "a")],
                          ["bad", "f0", "f1", "go", "up"])
        self.same_machine(plant[1], "k", [], [], [])
        self.assertTrue(all(machine.deeds() is deeds for machine in plant))
        self.assertEqual([type(rule) for rule in rules], [Never, Most, Ahead, Turns])
        self.assertEqual((rules[0].deed, rules[1].deed, rules[1].many), ("bad", "f0", 3))
        self.assertEqual([(rule.one, rule.other) for rule in rules[2:]], [("go", "up"), ("up", "go")])

    def test_what_is_written_is_read_and_written_again_the_same(self):
        self.assertEqual(written(*read(TEXT)), TEXT)
        for seed in range(80):
            dice = random.Random(seed)
            names = dice.sample(["bad", "f0", "go", "up", "x", "y1"], dice.randint(2, 6))
            deeds = Deeds(names, [name for name in names if dice.random() < 0.4])
            plant = [some_machine(deeds, seed * 3 + k) for k in range(dice.randint(1, 3))]
            rules = []
            for many in range(dice.randint(0, 4)):
                one, other = dice.sample(names, 2)
                rules.append(dice.choice([Never(one), Most(one, dice.randint(0, 6)), Ahead(one, other),
                                          Turns(one, other), Hold(one, other), Answer(one, other)]))
            text = written(deeds, plant, rules)
            again = read(text)
            self.assertEqual(written(*again), text)
            self.assertEqual((again[0].names(), again[0].free()), (deeds.names(), deeds.free()))
            self.assertEqual((len(again[1]), len(again[2])), (len(plant), len(rules)))
            for one, other in zip(again[1], plant):
                self.same(one, other)
            for one, other in zip(again[2], rules):
                self.assertIs(type(one), type(other))
                self.same(one.machine(again[0]), other.machine(deeds))

    def test_each_of_the_six_rules(self):
        for rule in (Never("go"), Most("f0", 0), Most("f0", 6), Ahead("f0", "go"), Turns("go", "f0"), Hold("f0", "go"),
                     Answer("go", "f0")):
            deeds = Deeds(["go", "f0"], ["f0"])
            told = read(written(deeds, [Machine(deeds, "a", [], [])], [rule]))[2]
            self.assertEqual([type(one) for one in told], [type(rule)])
            self.assertEqual(vars(told[0]), vars(rule))
        self.assertIs(type(read(SHORT + "rule most go 1")[2][0].many), int)

    def test_a_house_of_more_than_sixty_rooms_is_read(self):
        deeds = Deeds(["go", "up"])
        text = written(deeds, [ring(deeds, "go", 31), ring(deeds, "up", 2)], [Never("up")])
        house = House(*read(text))
        self.assertEqual(len(house.rooms()), 31)
        house = House(*read(text[:text.index("rule")]))
        self.refused(TooMany, house.rooms)


class TextCase(RefusalCase):
    def reads(self, text, plain):
        """Ask that a text is read as another one, which is as it would be written."""
        self.assertEqual(written(*read(text)), plain)

    def refused_at(self, row, *texts):
        """Ask that texts are refused with the number of a row."""
        for text in texts:
            with self.subTest(text=text):
                error = self.refused(NoText, read, text)
                self.assertEqual(error.row, row)
                self.assertIs(type(error.row), int)


class Read(TextCase):
    def test_by_the_argument_s_name(self):
        self.assertEqual(written(*read(text=TEXT)), TEXT)

    def test_blanks(self):
        for old, new in (("\n", " \n"), ("\n", "   \n "), (" ", "  "), (" ", "     "), ("\n", "\n  ")):
            self.reads(TEXT.replace(old, new), TEXT)
        self.reads("   " + TEXT, TEXT)

    def test_rows_without_words(self):
        self.reads(TEXT.replace("\n", "\n\n"), TEXT)
        self.reads(TEXT.replace("\n", "\n   \n \n\n"), TEXT)
        self.reads("\n \n\n" + TEXT + "\n\n  \n ", TEXT)

    def test_remarks(self):
        for remark in ("#", "# free up", "#rule", "  # machine a b c", "##", "#~!?", "   #door x y z #"):
            self.reads(remark + "\n" + TEXT, TEXT)
            self.reads(TEXT.replace("\n", "\n" + remark + "\n"), TEXT)
            self.reads(TEXT + remark, TEXT)

    def test_the_sign_of_a_remark_elsewhere_is_a_word(self):
        for text, row in ((SHORT + "end a # an end", 4), ("deed go #\n" + "machine a\n", 1), (SHORT + "x #", 4)):
            self.refused_at(row, text)
        self.refused_at(0, "deed #go\nmachine a\n")
        self.refused_at(0, SHORT + "end #")

    def test_a_last_row_without_a_line_end(self):
        self.reads(TEXT[:-1], TEXT)
        self.reads(DEEDS_ROWS + "machine a", "free f0\ndeed go\nmachine a\n")
        self.reads("machine a", "machine a\n")

    def test_deeds_in_any_order(self):
        self.reads("free up\ndeed go\nfree a\ndeed b\nmachine a\n", "free a\ndeed b\ndeed go\nfree up\nmachine a\n")

    def test_twelve_deeds_and_no_deed(self):
        names = ["d" + str(k) for k in range(10, 22)]
        for word in ("deed ", "free "):
            text = "".join(word + name + "\n" for name in names) + "machine a\n"
            self.reads(text, text)
            self.refused_at(0, "deed more\n" + text)
        self.reads("machine a\n", "machine a\n")

    def test_a_machine_s_rows_in_any_order(self):
        rows = TEXT.split("\n")
        for seed in range(12):
            inner = rows[6:13]
            random.Random(seed).shuffle(inner)
            self.reads("\n".join(rows[:6] + inner + rows[13:]), TEXT)

    def test_the_same_end_or_known_deed_twice(self):
        self.reads(SHORT + "end a\nknows go\nend a\nknows go\ndoor a f0 b\nknows f0\nend a\n",
                   "free f0\ndeed go\nmachine a\nend a\ndoor a f0 b\nknows go\n")

    def test_one_to_three_machines_and_up_to_four_rules(self):
        for machines in (1, 2, 3):
            for rules in range(5):
                text = "deed go\n" + "machine a\nend a\n" * machines + "rule never go\n" * rules
                self.reads(text, text)

    def test_figures(self):
        for figure in "0123456":
            self.reads(SHORT + "rule most go " + figure, "free f0\ndeed go\nmachine a\nrule most go " + figure + "\n")

    def test_words_of_the_rows_as_names(self):
        text = "deed deed\ndeed door\nfree free\nmachine machine\nend end\ndoor end door rule\nknows deed\n"
        text += "rule ahead deed free\n"
        self.reads(text, text)

    def test_just_six_thousand_signs(self):
        for pad in ("#" + "x" * (5999 - len(TEXT)), " " * (6000 - len(TEXT)), "\n" * (6000 - len(TEXT))):
            text = TEXT + pad
            self.assertEqual(len(text), 6000)
            self.reads(text, TEXT)
            self.refused_at(0, text + " ")
            self.refused_at(0, "\n" + text)


class RefusedRows(TextCase):
    def test_a_deed_behind_a_machine(self):
        for word in ("deed", "free"):
            self.refused_at(4, SHORT + word + " up\n")
            self.refused_at(5, SHORT + "end a\n" + word + " up\nrule never up\n")

    def test_a_deed_behind_a_rule(self):
        for word in ("deed", "free"):
            self.refused_at(5, SHORT + "rule never go\n" + word + " up\n")
            self.refused_at(4, DEEDS_ROWS + "rule never go\n" + word + " up\nmachine a\n")

    def test_a_machine_behind_a_rule(self):
        self.refused_at(5, SHORT + "rule never go\nmachine a\n")
        self.refused_at(4, DEEDS_ROWS + "rule never go\nmachine a\n")

    def test_a_machine_s_row_behind_a_rule(self):
        for row in ("end a", "door a go a", "knows go"):
            self.refused_at(5, SHORT + "rule never go\n" + row + "\n")
            self.refused_at(4, DEEDS_ROWS + "rule never go\n" + row + "\n")

    def test_a_machine_s_row_ahead_of_any_machine(self):
        for row in ("end a", "door a go a", "knows go"):
            self.refused_at(1, row + "\n" + SHORT)
            self.refused_at(2, "deed go\n" + row + "\nmachine a\n")
            self.refused_at(3, DEEDS_ROWS + row + "\nmachine a\n")

    def test_a_rule_where_no_machine_was_told(self):
        # It may stand there, but no house has no machine.
        self.refused_at(0, DEEDS_ROWS + "rule never go\n", DEEDS_ROWS + "rule never go\nrule most f0 1\n",
                        "rule never go\n")
        self.refused_at(3, DEEDS_ROWS + "rule never\n")

    def test_rows_counted_of_all_rows(self):
        self.refused_at(7, "\n# a remark\ndeed go\n\n   \nmachine a\nnothing\n")
        self.refused_at(3, "\n\n nothing")
        self.refused_at(1, "nothing")
        self.refused_at(5, "\n#\n \n\nend a\n")

    def test_unknown_words(self):
        for word in ("nothing", "deeds", "Deed", "DEED", "rules", "-", "~", "!", "never", "most", "d", "door:", "0"):
            for tail in ("", " go", " go 1", " a go a"):
                self.refused_at(1, word + tail, word + tail + "\n" + SHORT)
                self.refused_at(4, SHORT + word + tail)

    def test_too_few_and_too_many_words(self):
        for row in ("deed", "deed go up", "free", "free go up", "machine", "machine a b"):
            self.refused_at(1, row, row + "\n" + SHORT)
        for row in ("machine", "machine a b", "end", "end a b", "door", "door a", "door a go", "door a go a a", "knows",
                    "knows go f0", "rule", "rule never", "rule never go f0", "rule never go f0 go", "rule most",
                    "rule most go", "rule most go 1 1"):
            self.refused_at(4, SHORT + row, SHORT + row + "\nend a\n", SHORT + row + " \n")
        for word in ("ahead", "turns", "hold", "answer"):
            for tail in ("", " go", " go f0 go", " go f0 1 1"):
                self.refused_at(4, SHORT + "rule " + word + tail)

    def test_unknown_words_of_rules(self):
        for word in ("all", "told", "Never", "nevers", "rule", "never,", "#", "0"):
            for tail in ("", " go", " go f0", " go 1", " go f0 go"):
                self.refused_at(4, SHORT + "rule " + word + tail)

    def test_what_is_not_one_figure(self):
        for word in ("go", "x", "-", "~", "00", "01", "10", "12", "012345", "0123456789", "-1", "+1", "1.", "one", "_1",
                     "#", ":", "/"):
            self.refused_at(4, SHORT + "rule most go " + word)

    def test_a_figure_that_is_too_high_can_not_be_made(self):
        for figure in "789":
            self.refused_at(0, SHORT + "rule most go " + figure)
            self.refused_at(5, SHORT + "rule most go " + figure + "\nnothing")

    def test_the_first_wrong_row(self):
        self.refused_at(2, "deed go\nfree\nmachine\nnothing\n")
        self.refused_at(3, "deed go\nrule never go\ndeed up\nmachine a\n\nrule most go x\n")
        self.refused_at(2, "deed go\nend a\nnothing")


class RefusedWhole(TextCase):
    def test_what_is_no_text(self):
        self.refused_at(0, *ODD_THINGS, [TEXT], (TEXT,), TEXT.encode(), TEXT.split("\n"))

    def test_another_sign(self):
        for sign in ("\t", "\r", "\r\n", "\0", "\x1f", "\x0b", "\x0c", "\x1c"):
            for text in (sign, sign + TEXT, TEXT + sign, TEXT.replace("up", "up" + sign), TEXT + "#" + sign,
                         TEXT.replace(" ", sign), "nothing" + sign):
                self.refused_at(0, text)

    def test_too_long_ahead_of_a_wrong_row(self):
        self.refused_at(0, "nothing\n" * 751, "nothing" + " " * 5994, TEXT + " " * (6001 - len(TEXT)), "\n" * 6001)
        self.refused_at(1, "nothing\n" * 750)

    def test_other_signs_ahead_of_a_wrong_row(self):
        self.refused_at(0, "nothing\n" + TEXT + "\t", "nothing\nnothing\r\n", "end a\n\0")

    def test_wrong_rows_ahead_of_what_can_not_be_made(self):
        self.refused_at(3, "deed go\ndeed go\nnothing\n", "deed Go\nmachine A\nend\n", "machine A\nmachine a\nend\n")
        self.refused_at(6, "machine a\n" * 5 + "rule never")

    def test_no_machine(self):
        self.refused_at(0, "", "\n", "  ", "#", "# nothing\n", DEEDS_ROWS, "deed go", "\n" * 6000)

    def test_four_machines_and_five_rules(self):
        self.refused_at(0, "machine a\n" * 4, "machine a\n" * 600, SHORT + "rule never go\n" * 5,
                        SHORT + "rule never go\n" * 400, "machine a\nend a\n" * 4)

    def test_deeds_that_can_not_be_made(self):
        for rows in ("deed go\ndeed go\n", "deed go\nfree go\n", "free go\nfree go\n", "deed Go\n", "deed a_b\n",
                     "deed abcdefghi\n", "free 1a\n", "free -\n", "deed #\n", "deed 1\n",
                     "".join("deed d" + str(k) + "\n" for k in range(13)),
                     "".join("free d" + str(k) + "\n" for k in range(13))):
            self.refused_at(0, rows + "machine a\n")
        for name in ODD_TEXTS:
            if name.strip() == name != "" and " " not in name:
                self.refused_at(0, "deed " + name + "\nmachine a\n", "deed go\nmachine " + name + "\n",
                                SHORT + "end " + name, SHORT + "door " + name + " go a", SHORT + "door a go " + name,
                                SHORT + "door a " + name + " a", SHORT + "knows " + name, SHORT + "rule never " + name)

    def test_machines_that_can_not_be_made(self):
        for rows in ("door a go b\ndoor a go c\n", "door a go b\ndoor a go b\n", "door a up a\n", "knows up\n",
                     "end A\n", "door a go -\n", "".join("end s" + str(k) + "\n" for k in range(60))):
            self.refused_at(0, SHORT + rows, SHORT + rows + "machine b\n", SHORT + "end a\nmachine b\n" + rows)
        text = SHORT + "".join("end s" + str(k) + "\n" for k in range(59))
        self.assertEqual(len(read(text)[1][0].rooms()), 60)

    def test_rules_that_can_not_be_made(self):
        for word in ("ahead", "turns", "hold", "answer"):
            self.refused_at(0, SHORT + "rule " + word + " go go", SHORT + "rule " + word + " up up")

    def test_a_rule_about_a_deed_that_there_is_not(self):
        self.refused_at(0, SHORT + "rule never up", SHORT + "rule most up 1")
        for word in ("ahead", "turns", "hold", "answer"):
            self.refused_at(0, SHORT + "rule " + word + " go up", SHORT + "rule " + word + " up go",
                            SHORT + "rule never go\nrule " + word + " f0 up")


class WhoseLists(RefusalCase):
    def test_lists_told_are_the_askers_own(self):
        deeds, plant, rules = read(TEXT)
        plant.clear()
        rules.append("z")
        deeds.names().clear()
        self.assertEqual(written(*read(TEXT)), TEXT)

    def test_lists_handed_in_stay_as_they_were(self):
        deeds, plant, rules = told_house()
        kept = (list(plant), list(rules))
        text = written(deeds, plant, rules)
        self.assertEqual((plant, rules), kept)
        self.refused(NoRule, written, deeds, plant, rules + [All([])])
        self.assertEqual((plant, rules), kept)
        plant.clear()
        rules.clear()
        self.assertEqual(text, TEXT)
        self.assertEqual(written(deeds, *kept), TEXT)

    def test_read_twice(self):
        one, other = read(TEXT), read(TEXT)
        self.assertIsNot(one[1], other[1])
        self.assertEqual(written(*one), written(*other))


if __name__ == "__main__":
    unittest.main()
