"""Desks: [9.5], and of the whole [0.3], [0.4]."""

import unittest

from helper import (DEEDS, ODD_TEXTS, PLAY_DOORS, PLAY_RULES, RefusalCase, house_of, line, machine_of, play_warden,
                    ring, two_rings)
from roomward.desks import answers_of
from roomward.errors import NoText
from roomward.least import least
from roomward.rules import Answer, Most, Never
from roomward.rounds import left
from roomward.texts import written
from roomward.warden import Warden

NO_ROWS = ["nothing", "room", "Rooms", "LETS", "let", "-", "#", "# rooms", "#rooms", "## lets", "~", "0", "why?", "ok",
           "refused", "no row", "deed go", "rule never go", "machine a", "sends ann go", "go", "ann go", "end"]


def text_of(ends, doors, rules=()):
    """The text of a house of one machine that begins at a, its doors told by texts."""
    return written(DEEDS, [machine_of("a", ends, doors)], list(rules))


# At a go is let and bad forbidden; at b f0 comes and up is let; at c f1 comes and go is forbidden, for f2 behind it.
TEXT = text_of("ad", PLAY_DOORS, PLAY_RULES)
# From b no end can be come to; d has no door.
SHUT = text_of("acd", ["a go b", "a up c", "b go b", "c f0 d", "a bad d", "c up b"])


class DeskCase(RefusalCase):
    def answers(self, pairs, text=TEXT):
        """Ask one desk for the answers to rows, each told with its answer."""
        found = answers_of(text, "\n".join(row for row, answer in pairs))
        self.assertEqual(list(zip([row for row, answer in pairs], found)), pairs)
        self.assertEqual(len(found), len(pairs))

    def each(self, rows, answer, text=TEXT):
        """Ask for one answer to each of some rows."""
        self.answers([(row, answer) for row in rows], text)


class TheHouse(DeskCase):
    def test_rooms(self):
        self.answers([("rooms", "4 3")])
        self.answers([("rooms", "4 3")], SHUT)
        self.answers([("rooms", "1 1")], "machine a\nend a\n")

    def test_all_that_are_left_not_the_warden_s_alone(self):
        # y is left, but behind c alone, which goes for f1.
        doors, rules = ["a up c", "c f1 c", "c go y"], [Never("f1")]
        house = house_of("a", "acy", doors, rules)
        self.assertEqual((len(left(house)), len(Warden(house).rooms())), (2, 1))
        self.answers([("rooms", "3 2")], text_of("acy", doors, rules))

    def test_too_many_words(self):
        self.each(["rooms 1", "rooms rooms", "rooms -", "rooms #"], "no row")

    def test_just_sixty_rooms(self):
        text = written(DEEDS, [ring(DEEDS, "go", 30), ring(DEEDS, "up", 2)], [])
        self.answers([("rooms", "60 60"), ("lets", "go up"), ("least", "1")], text)

    def test_over_sixty_rooms(self):
        text = written(DEEDS, [ring(DEEDS, "go", 31), ring(DEEDS, "up", 2)], [])
        rows = ["rooms", "lets", "lets go", "forbids", "why go", "part", "least", "send ann go", "turn", "came f0",
                "where", "lets nothing", "send", "rooms 1", "why"]
        self.each(rows + NO_ROWS, "refused TooMany", text)
        self.assertEqual(answers_of(text, ""), [])
        self.assertEqual(answers_of(text, " \n\nrooms\n  \n"), ["refused TooMany"])
        # The begin would be taken off here.
        text = written(DEEDS, [line(DEEDS, "go", 60, [], [("s0", "f0")]), ring(DEEDS, "up", 2)], [Never("f0")])
        self.each(["rooms", "lets", "nothing"], "refused TooMany", text)


class TheWarden(DeskCase):
    def test_lets(self):
        self.answers([("lets", "go"), ("lets go", "f0 up"), ("lets go f0", "f1"), ("lets go up", "go"),
                      ("lets go f0 f1", "go")])

    def test_forbids(self):
        self.answers([("forbids", "bad"), ("forbids go", "-"), ("forbids go f0", "go"), ("forbids go up go", "-")])

    def test_lists_of_none(self):
        self.answers([("lets", "up"), ("lets up f0", "-"), ("forbids up f0", "-"), ("forbids up", "up")],
                     text_of("acd", ["a go b", "a up c", "b go b", "c f0 d", "c up b"]))
        self.answers([("lets", "-"), ("forbids", "-")], "machine a\nend a\n")

    def test_long_rows(self):
        row = " go f0 f1" * 66
        self.answers([("lets" + row, "go"), ("forbids" + row + " go f0", "go"), ("why bad" + row, "broken bad")])

    def test_rows_that_are_not_let(self):
        for word in ("lets", "forbids", "why bad", "why go", "why f0", "why nothing", "why -"):
            self.each([word + row for row in (" bad", " up", " f0", " go bad", " go go", " go f0 go", " go f0 go f2",
                                              " go up bad go")], "not let")

    def test_rows_with_deeds_that_there_are_not(self):
        for word in ("lets", "forbids", "why bad", "why go", "why nothing"):
            self.each([word + row for row in (" nothing", " go nothing", " nothing go", " bad nothing", " -", " #",
                                              " go up nothing", " Go", " go #", " r0", " a")], "refused NoDeed")

    def test_why(self):
        self.answers([("why bad", "broken bad"), ("why go go f0", "broken go f2"), ("why bad go up", "broken bad"),
                      ("why bad go f0 f1", "broken bad")])
        self.answers([("why go", "shut go"), ("why up up", "shut up")],
                     text_of("acd", ["a go b", "a up c", "b go b", "c f0 d", "c up b"]))
        self.answers([("why go", "shut go f1 f0")], text_of("abc", ["a go b", "b f1 c", "c f0 d"]))

    def test_why_of_a_deed_that_is_not_forbidden(self):
        self.each(["why go", "why up", "why f0", "why f2", "why bad go", "why f0 go", "why up go", "why f1 go f0"],
                  "refused NotNow")

    def test_why_of_a_deed_that_there_is_not(self):
        self.each(["why nothing", "why nothing go", "why - go f0", "why #"], "refused NoDeed")

    def test_why_of_no_deed(self):
        self.each(["why", "why ", "  why"], "no row")

    def test_least(self):
        self.answers([("least", "3")])
        text = text_of("abcd", ["a go b", "b go c", "c go d", "d go a"])
        self.answers([("least", "1"), ("rooms", "4 4")], text)
        self.answers([("least", "2")], text_of("bd", ["a go b", "b go c", "c go d", "d go a"]))
        self.assertEqual(len(least(play_warden()).rooms()), 3)

    def test_least_of_too_many_words(self):
        self.each(["least 1", "least go", "least least"], "no row")


class InPart(DeskCase):
    def alike(self, seen, deed, text=TEXT, warden=None):
        """Ask for an answer that tells two rows which look alike: behind the first one a deed is let."""
        warden = play_warden() if warden is None else warden
        answer = answers_of(text, "part " + " ".join(seen))[0]
        self.assertRegex(answer, r"\Aalike: (-|[a-z0-9]+( [a-z0-9]+)*) / (-|[a-z0-9]+( [a-z0-9]+)*) : [a-z0-9]+\Z")
        rows, found = answer[len("alike: "):].split(" : ")
        one, other = [[] if row == "-" else row.split() for row in rows.split(" / ")]
        self.assertEqual(found, deed)
        self.assertEqual([d for d in one if d in seen], [d for d in other if d in seen])
        self.assertIn(deed, warden.lets(warden.behind(one)))
        self.assertIn(deed, warden.forbids(warden.behind(other)))
        return answer

    def test_as_good(self):
        self.each(["part go f0 f1 up", "part f0 f1", "part f0 f1 go", "part bad f0 f1 f2 go up", "part f1 f0 f1 f0"],
                  "as good")
        self.answers([("part", "as good")], text_of("a", ["a go a"]))

    def test_alike(self):
        for seen in ([], ["go"], ["up"], ["bad", "up"], ["f2"], ["go", "up"]):
            self.alike(seen, "go")

    def test_rows_of_none(self):
        doors = ["a go b", "b go c", "a up b"]
        warden = Warden(house_of("a", "ab", doors))
        # go is let at a and forbidden at b, up is let at a alone: who sees go knows.
        answer = self.alike([], "go", text_of("ab", doors), warden)
        self.assertTrue(answer.startswith("alike: - / "))
        self.assertIn(answer, ("alike: - / go : go", "alike: - / up : go"))
        doors = ["a up b", "b go b", "a go c"]
        warden = Warden(house_of("a", "ab", doors))
        self.alike([], "go", text_of("ab", doors), warden)
        self.assertEqual(answers_of(text_of("ab", doors), "part go")[0], "alike: up / - : go")

    def test_a_deed_that_there_is_not(self):
        self.each(["part nothing", "part go nothing", "part nothing go", "part -", "part #", "part f0 f1 go up x"],
                  "refused NoDeed")

    def test_too_many_places(self):
        text = written(DEEDS, [two_rings(17, 13, 14)], [])
        self.answers([("part go", "as good"), ("part f1 go", "as good")], text)
        text = written(DEEDS, [two_rings(18, 13, 14)], [])
        self.answers([("part go", "refused TooMany"), ("part f1 go", "as good"), ("rooms", "46 46")], text)


class ThePlay(DeskCase):
    def test_a_play(self):
        self.answers([("where", "- end"), ("turn", "nothing"), ("send ann go", "ok"), ("where", "- end"),
                      ("send bob up", "ok"), ("send cy go", "ok"), ("send ann bad", "ok"), ("turn", "ann go let"),
                      ("where", "go on"), ("turn", "bob up let"), ("where", "go up end"), ("turn", "cy go let"),
                      ("came f0", "ok"), ("where", "go up go f0 on"), ("turn", "ann bad idle"), ("turn", "nothing"),
                      ("send ann go", "ok"), ("turn", "ann go forbidden"), ("came f1", "ok"),
                      ("where", "go up go f0 f1 end"), ("turn", "nothing")])

    def test_each_answer(self):
        self.answers([("send ann bad", "ok"), ("send bob up", "ok"), ("send cy go", "ok"),
                      ("turn", "ann bad forbidden"), ("turn", "bob up idle"), ("turn", "cy go let"),
                      ("turn", "nothing")])

    def test_what_is_asked_between_moves_nothing(self):
        self.answers([("send ann go", "ok"), ("lets go f0", "f1"), ("part f0 f1", "as good"), ("least", "3"),
                      ("rooms", "4 3"), ("why bad", "broken bad"), ("where", "- end"), ("turn", "ann go let"),
                      ("lets", "go"), ("forbids", "bad"), ("where", "go on")])

    def test_send_refused(self):
        self.each(["send Ann go", "send - go", "send # nothing", "send 1 f0", "send abcdefghi go"], "refused NoName")
        self.each(["send ann nothing", "send ann -", "send ann #", "send go ann"], "refused NoDeed")
        self.each(["send ann f0", "send ann f1", "send ann f2"], "refused FreeDeed")
        for name in ODD_TEXTS:
            if name.isprintable() and name.strip() == name != "" and " " not in name:
                self.answers([("send " + name + " go", "refused NoName")])

    def test_just_twenty_letters(self):
        twenty = [("send ann up", "ok")] * 20
        self.answers(twenty + [("send ann up", "refused TooMany"), ("send Ann up", "refused NoName"),
                               ("send ann x", "refused NoDeed"), ("send ann f0", "refused FreeDeed"),
                               ("turn", "ann up idle"), ("send bob up", "ok"), ("send bob up", "refused TooMany")])

    def test_came_refused(self):
        self.each(["came nothing", "came -", "came #", "came F0"], "refused NoDeed")
        self.each(["came go", "came bad", "came up", "came f0", "came f1", "came f2"], "refused NotNow")
        self.answers([("send ann go", "ok"), ("turn", "ann go let"), ("came f1", "refused NotNow"), ("came f0", "ok"),
                      ("came f0", "refused NotNow"), ("where", "go f0 on")])

    def test_what_is_refused_changes_nothing(self):
        self.answers([("send ann go", "ok"), ("send ann f0", "refused FreeDeed"), ("came f0", "refused NotNow"),
                      ("send", "no row"), ("turn turn", "no row"), ("where", "- end"), ("turn", "ann go let"),
                      ("turn", "nothing"), ("came", "no row"), ("came f0 f0", "no row"), ("where", "go on")])

    def test_where_at_an_end_and_on(self):
        text = text_of("a", ["a go a", "a up a"], [Answer("go", "up"), Most("go", 1)])
        self.answers([("where", "- end"), ("send ann go", "ok"), ("turn", "ann go let"), ("where", "go on"),
                      ("send ann up", "ok"), ("turn", "ann up let"), ("where", "go up end")], text)

    def test_where_nothing_was_done_and_no_end_is(self):
        self.answers([("where", "- on")], text_of("b", ["a go b"]))

    def test_too_few_and_too_many_words(self):
        self.each(["send", "send ann", "send ann go up", "send ann go -", "turn 1", "turn ann", "turn ann go let",
                   "came", "came f0 f1", "came f0 -", "where 1", "where go", "where where"], "no row")


class Rows(DeskCase):
    def test_other_rows(self):
        self.each(NO_ROWS + ["rooms,", "rooms: 4", "#lets go", "# ", "no", "not let", "part:"], "no row")

    def test_blanks(self):
        self.answers([("   rooms", "4 3"), ("rooms   ", "4 3"), ("  lets   go    f0 ", "f1"),
                      (" why  bad ", "broken bad"), ("  send   ann  go  ", "ok"), (" turn ", "ann go let"),
                      ("  came  f0", "ok"), ("  where ", "go f0 on"), ("   part   f0    f1 ", "as good"),
                      (" nothing ", "no row")])

    def test_rows_without_words_are_passed_over(self):
        for rows in ("", " ", "\n", "\n\n\n", "   \n \n"):
            self.assertEqual(answers_of(TEXT, rows), [])
        self.assertEqual(answers_of(TEXT, "\n \nrooms\n\n   \n\n lets \n nothing\n \n"), ["4 3", "go", "no row"])

    def test_a_last_row_with_and_without_a_line_end(self):
        self.assertEqual(answers_of(TEXT, "rooms\nlets"), ["4 3", "go"])
        self.assertEqual(answers_of(TEXT, "rooms\nlets\n"), ["4 3", "go"])

    def test_more_rows_than_a_house_s_text_may_have_signs(self):
        self.assertEqual(answers_of(TEXT, "rooms\n" * 1500), ["4 3"] * 1500)

    def test_by_the_arguments_names(self):
        self.assertEqual(answers_of(text=TEXT, rows="rooms"), ["4 3"])

    def test_asked_twice(self):
        rows = "send ann go\nturn\ncame f0\nwhere\nlets\npart\nleast\nsend bob go\nturn\nturn\n" + "\n".join(NO_ROWS)
        told = answers_of(TEXT, rows)
        again = answers_of(TEXT, rows)
        self.assertEqual(told, again)
        told.clear()
        self.assertEqual(answers_of(TEXT, rows), again)
        self.assertIs(type(again), list)
        self.assertTrue(all(type(answer) is str for answer in again))


class WithoutAWarden(DeskCase):
    def test_the_word_and_the_row(self):
        rows = ["lets", "lets go", "forbids", "why go", "why", "part", "part nothing", "least", "least 1",
                "send ann go", "send Ann", "turn", "came f0", "where", "lets nothing", "rooms 1"] + NO_ROWS
        text = text_of("abc", ["a f1 b", "b f2 c", "c f0 c", "a go a"], [Never("f0")])
        self.each(rows, "no warden: broken f1 f2 f0", text)
        self.answers([("rooms", "3 0"), ("lets", "no warden: broken f1 f2 f0"), (" rooms  ", "3 0")], text)
        text = text_of("ab", ["a f2 b", "b f1 c"])
        self.each(rows, "no warden: shut f2 f1", text)
        self.answers([("rooms", "3 0")], text)

    def test_the_word_alone_of_no_row(self):
        text = text_of("", ["a go b"])
        self.each(["lets", "why", "turn", "where", "send ann go", "rooms rooms"] + NO_ROWS, "no warden: shut", text)
        self.answers([("rooms", "2 0")], text)

    def test_rooms_that_are_left_none_the_less(self):
        text = text_of("ab", ["a f0 a", "a go b", "b go b"], [Never("f0")])
        self.answers([("rooms", "2 1"), ("where", "no warden: broken f0")], text)

    def test_rows_without_words_are_passed_over(self):
        self.assertEqual(answers_of(text_of("", []), "\n  \nturn\n\nrooms\n"), ["no warden: shut", "1 0"])


class NoHouse(DeskCase):
    def test_refused_as_read_is(self):
        for rows in ("", "rooms", "nothing\n"):
            for text, row in (("", 0), ("deed go", 0), (None, 0), ([], 0), (7, 0), (" " * 6001, 0), ("\t", 0),
                              ("machine a\nnothing\n", 2), ("\n\nend a", 3), ("machine a\n" * 4, 0),
                              ("machine a\nrule never go\n", 0)):
                self.assertEqual(self.refused(NoText, answers_of, text, rows).row, row)


if __name__ == "__main__":
    unittest.main()
