"""Plays: [9.1], what [9.2] says of the book that a play keeps, and of the whole [0.3], [0.4]."""

import random
import unittest

from helper import (DEEDS, ODD_TEXTS, ODD_THINGS, RefusalCase, machine_of, play_warden, some_wardens, state_of,
                    warden_of)
from roomward.errors import FreeDeed, NoDeed, NoName, NotNow, TooMany
from roomward.houses import House
from roomward.plays import Play
from roomward.rules import Answer, Hold, Never
from roomward.warden import Warden

NO_DEEDS = ODD_THINGS + ODD_TEXTS + ("nothing", "a", "r0")


def r(name):
    """A room of the warden that plays here."""
    return (name, "r0", "r0")


class PlayCase(RefusalCase):
    def setUp(self):
        self.warden = play_warden()
        self.play = Play(self.warden)

    def stands(self, room, told, letters, end, book):
        """Ask for all that the play tells."""
        self.assertEqual(self.play.room(), r(room))
        self.assertEqual(self.play.told(), told)
        self.assertEqual(self.play.letters(), letters)
        self.assertIs(self.play.at_end(), end)
        self.assertEqual(self.play.book(), book)

    def sent(self, *letters):
        """Send letters, told by texts: an asker and a deed."""
        for letter in letters:
            self.assertIsNone(self.play.send(*letter.split()))

    def keeps(self, kind, call, *parts):
        """Ask that a call is refused with this class and changes nothing."""
        ahead = state_of(self.play)
        self.refused(kind, call, *parts)
        self.assertEqual(state_of(self.play), ahead)


class TheWay(PlayCase):
    def test_at_first(self):
        self.stands("a", [], [], True, [])

    def test_behind_each_deed(self):
        self.sent("ann go")
        book = [("send", "ann", "go")]
        self.stands("a", [], [("ann", "go")], True, book)
        self.assertEqual(self.play.turn(), ("ann", "go", "let"))
        book.append(("turn", "ann", "go", "let"))
        self.stands("b", ["go"], [], False, book)
        self.assertIsNone(self.play.came("f0"))
        book.append(("came", "f0"))
        self.stands("c", ["go", "f0"], [], False, book)
        self.assertIsNone(self.play.came("f1"))
        book.append(("came", "f1"))
        self.stands("a", ["go", "f0", "f1"], [], True, book)

    def test_a_house_of_one_room_that_is_an_end(self):
        play = Play(warden_of("a", "a", []))
        self.assertEqual(state_of(play), (("a",), [], [], True, []))

    def test_an_end_is_one_of_the_rules_too(self):
        play = Play(warden_of("a", "a", ["a go a", "a up a"], [Answer("go", "up")]))
        self.assertIs(play.at_end(), True)
        for deed, end in (("go", False), ("up", True), ("up", True), ("go", False), ("go", False), ("up", True)):
            play.send("ann", deed)
            play.turn()
            self.assertIs(play.at_end(), end)

    def test_by_the_arguments_names(self):
        self.play = Play(warden=self.warden)
        self.play.send(asker="ann", deed="go")
        self.play.turn()
        self.play.came(deed="f0")
        self.assertEqual(self.play.room(), r("c"))


class Send(PlayCase):
    def test_letters_wait_in_order(self):
        self.sent("ann up", "bob go", "ann up", "ann go")
        self.assertEqual(self.play.letters(), [("ann", "up"), ("bob", "go"), ("ann", "up"), ("ann", "go")])
        self.assertEqual(self.play.book(), [("send", "ann", "up"), ("send", "bob", "go"), ("send", "ann", "up"),
                                            ("send", "ann", "go")])
        self.assertEqual((self.play.room(), self.play.told()), (r("a"), []))

    def test_what_is_no_name(self):
        self.sent("ann go")
        for thing in ODD_THINGS + ODD_TEXTS:
            self.keeps(NoName, self.play.send, thing, "go")

    def test_askers_may_be_called_like_deeds_and_rooms(self):
        self.sent("go go", "a up", "f0 bad", "a1234567 up")
        self.assertEqual(len(self.play.letters()), 4)

    def test_what_is_no_deed(self):
        self.sent("ann go")
        for thing in NO_DEEDS:
            self.keeps(NoDeed, self.play.send, "ann", thing)

    def test_a_free_deed(self):
        for room in "abca":
            for deed in ("f0", "f1", "f2"):
                self.keeps(FreeDeed, self.play.send, "ann", deed)
            if room == "a":
                self.sent("bob go")
                self.play.turn()
            else:
                self.play.came("f0" if room == "b" else "f1")

    def test_just_twenty_letters_wait(self):
        for number in range(20):
            self.assertEqual(len(self.play.letters()), number)
            self.sent("ann up")
        self.assertEqual(len(self.play.letters()), 20)
        self.keeps(TooMany, self.play.send, "ann", "up")
        self.keeps(TooMany, self.play.send, "bob", "go")
        self.play.turn()
        self.sent("cy go")
        self.assertEqual(self.play.letters(), [("ann", "up")] * 19 + [("cy", "go")])
        self.keeps(TooMany, self.play.send, "ann", "up")
        self.play.turn()
        self.play.turn()
        self.sent("ann up", "ann up")
        self.keeps(TooMany, self.play.send, "ann", "up")

    def test_letters_that_were_answered_do_not_count(self):
        for number in range(60):
            self.sent("ann up")
            self.play.turn()
        self.assertEqual(len(self.play.book()), 120)
        self.sent(*["ann up"] * 20)
        self.keeps(TooMany, self.play.send, "ann", "up")

    def test_which_refusal_where_two_are_due(self):
        for many in (0, 20):
            self.sent(*["ann up"] * many)
            for asker in ("", "Ann", None, [], 1):
                for deed in ("nothing", None, [], "f0", "go"):
                    self.keeps(NoName, self.play.send, asker, deed)
            for deed in ("nothing", None, [], "F0", 0):
                self.keeps(NoDeed, self.play.send, "ann", deed)
            self.keeps(FreeDeed, self.play.send, "ann", "f0")
        self.keeps(TooMany, self.play.send, "ann", "go")


class Turn(PlayCase):
    def test_nothing_without_letters(self):
        self.assertIsNone(self.play.turn())
        self.stands("a", [], [], True, [])
        self.sent("ann go")
        self.play.turn()
        ahead = state_of(self.play)
        self.assertIsNone(self.play.turn())
        self.assertIsNone(self.play.turn())
        self.assertEqual(state_of(self.play), ahead)

    def come_to(self, room):
        """Begin a new play, and bring it to a room."""
        self.play = Play(self.warden)
        if room != "a":
            self.sent("ann go")
            self.play.turn()
        if room == "c":
            self.play.came("f0")

    def answers(self, room, told):
        """Ask for the answer to each deed that isn't free, at a room."""
        for deed, answer in told.items():
            self.come_to(room)
            self.sent("bob " + deed)
            done, book = self.play.told(), self.play.book()
            self.assertEqual(self.play.turn(), ("bob", deed, answer))
            self.assertEqual(self.play.letters(), [])
            self.assertEqual(self.play.book(), book + [("turn", "bob", deed, answer)])
            far = self.warden.to(r(room), deed) if answer == "let" else r(room)
            self.assertEqual((self.play.room(), self.play.told()), (far, done + [deed] * (answer == "let")))

    def test_let_and_the_warden_goes_on_else_it_stays(self):
        self.answers("a", {"go": "let", "bad": "forbidden", "up": "idle"})
        self.answers("b", {"go": "idle", "bad": "idle", "up": "let"})
        self.answers("c", {"go": "forbidden", "bad": "idle", "up": "idle"})

    def test_forbidden_for_what_would_come_behind(self):
        self.sent("ann go", "bob go")
        self.play.turn()
        self.play.came("f0")
        self.assertEqual(self.play.turn(), ("bob", "go", "forbidden"))
        self.assertEqual(self.play.told(), ["go", "f0"])

    def test_idle_where_only_rules_or_nobody_know_the_deed(self):
        play = Play(warden_of("a", "a", ["a go a"], [Never("up")]))
        play.send("ann", "up")
        play.send("ann", "bad")
        self.assertEqual([play.turn(), play.turn()], [("ann", "up", "idle"), ("ann", "bad", "idle")])

    def test_idle_where_one_of_the_machines_has_no_door(self):
        plant = [machine_of("a", "a", ["a go a"]), machine_of("k", "kl", ["k up l", "l go k"])]
        play = Play(Warden(House(DEEDS, plant, [Hold("go", "bad")])))
        answers = []
        for deed in ("go", "up", "go", "up", "go"):
            play.send("ann", deed)
            answers.append(play.turn()[2])
        self.assertEqual(answers, ["idle", "let", "let", "let", "forbidden"])

    def test_in_the_order_in_which_they_were_sent_once_each(self):
        self.sent("ann up", "bob go", "cy bad", "ann up", "ann up", "bob go")
        told = [("ann", "up", "idle"), ("bob", "go", "let"), ("cy", "bad", "idle"), ("ann", "up", "let"),
                ("ann", "up", "idle"), ("bob", "go", "let"), None]
        letters = self.play.letters()
        for number, answer in enumerate(told):
            self.assertEqual(self.play.letters(), letters[number:])
            self.assertEqual(self.play.turn(), answer)
        self.assertEqual(self.play.book()[6:], [("turn",) + answer for answer in told[:6]])
        self.stands("b", ["go", "up", "go"], [], False, self.play.book())

    def test_letters_sent_between_stand_behind(self):
        self.sent("ann go", "bob up")
        self.play.turn()
        self.sent("ann go")
        self.assertEqual([self.play.turn(), self.play.turn()], [("bob", "up", "let"), ("ann", "go", "let")])


class Came(PlayCase):
    def test_what_is_no_deed(self):
        for thing in NO_DEEDS:
            self.keeps(NoDeed, self.play.came, thing)

    def test_a_deed_that_is_not_free(self):
        # go is let here, bad forbidden, up can't be done.
        for deed in ("go", "bad", "up"):
            self.keeps(NotNow, self.play.came, deed)

    def test_a_free_deed_that_the_machines_can_not_do(self):
        for deed in ("f0", "f1", "f2"):
            self.keeps(NotNow, self.play.came, deed)
        self.sent("ann go")
        self.play.turn()
        for deed in ("f1", "f2", "up"):
            self.keeps(NotNow, self.play.came, deed)
        self.play.came("f0")
        for deed in ("f0", "f2", "go"):
            self.keeps(NotNow, self.play.came, deed)

    def test_a_free_deed_that_nobody_knows(self):
        play = Play(warden_of("a", "a", ["a f0 a"], [Hold("f1", "f2")]))
        for deed in ("f1", "f2"):
            self.refused(NotNow, play.came, deed)
        play.came("f0")
        self.assertEqual(play.book(), [("came", "f0")])

    def test_letters_wait_on(self):
        self.sent("ann go", "bob up", "ann go")
        self.play.turn()
        self.play.came("f0")
        self.assertEqual(self.play.letters(), [("bob", "up"), ("ann", "go")])
        self.assertEqual([self.play.turn()[2], self.play.turn()[2]], ["idle", "forbidden"])

    def test_also_where_twenty_letters_wait(self):
        self.sent("ann go", *["bob up"] * 19)
        self.play.turn()
        self.sent("bob up")
        self.play.came("f0")
        self.assertEqual((self.play.room(), len(self.play.letters())), (r("c"), 20))


class WhoseLists(PlayCase):
    def test_two_plays_of_one_warden(self):
        other = Play(self.warden)
        self.sent("ann go", "bob up")
        self.assertEqual(state_of(other), (r("a"), [], [], True, []))
        self.play.turn()
        other.send("cy", "bad")
        self.assertEqual(other.turn(), ("cy", "bad", "forbidden"))
        self.play.came("f0")
        self.assertEqual(state_of(other), (r("a"), [], [], True, [("send", "cy", "bad"),
                                                                   ("turn", "cy", "bad", "forbidden")]))
        self.assertEqual((self.play.room(), self.play.letters()), (r("c"), [("bob", "up")]))
        self.assertEqual((self.warden.begin(), self.warden.behind(["go"])), (r("a"), r("b")))

    def test_lists_told_are_the_askers_own(self):
        self.sent("ann go", "bob up", "cy go")
        self.play.turn()
        ahead = state_of(self.play)
        for ask in (self.play.told, self.play.letters, self.play.book):
            told = ask()
            self.assertIs(type(told), list)
            self.assertTrue(told)
            told[0] = "z"
            told.append("z")
            self.assertEqual(state_of(self.play), ahead)
            told.clear()
            self.assertEqual(state_of(self.play), ahead)
        self.assertEqual([self.play.turn(), self.play.turn()], [("bob", "up", "let"), ("cy", "go", "let")])
        self.assertEqual(self.play.told(), ["go", "up", "go"])

    def test_what_was_told_stays_as_it_was(self):
        self.sent("ann go", "bob up")
        told = state_of(self.play)
        kept = (told[0], list(told[1]), list(told[2]), told[3], list(told[4]))
        self.play.turn()
        self.play.came("f0")
        self.play.turn()
        self.assertEqual(told, kept)

    def test_kinds(self):
        self.sent("ann go", "ann go")
        turned = self.play.turn()
        self.play.came("f0")
        for thing in [turned, self.play.room()] + self.play.letters() + self.play.book():
            self.assertIs(type(thing), tuple)

    def test_what_a_warden_tells_may_be_changed(self):
        self.warden.lets(r("a")).clear()
        self.warden.rooms().clear()
        self.warden.forbids(r("a")).append("go")
        self.sent("ann go", "ann bad")
        self.assertEqual([self.play.turn()[2], self.play.turn()[2]], ["let", "idle"])


class ByWords(RefusalCase):
    def test_made_up_plays(self):
        seen = set()
        for seed, warden in enumerate(list(some_wardens())[:60]):
            house, play, dice = warden.house(), Play(warden), random.Random(seed)
            names = house.deeds().names()
            row, letters, book = [], [], []
            for step in range(60):
                room, deed, asker = warden.behind(row), dice.choice(names), dice.choice(["ann", "bob"])
                call = dice.choice(["send", "send", "turn", "came"])
                if call == "send" and (house.deeds().is_free(deed) or len(letters) == 20):
                    self.refused(FreeDeed if house.deeds().is_free(deed) else TooMany, play.send, asker, deed)
                elif call == "send":
                    self.assertIsNone(play.send(asker, deed))
                    letters.append((asker, deed))
                    book.append(("send", asker, deed))
                elif call == "turn" and letters:
                    asker, deed = letters.pop(0)
                    can = deed in house.can(room)
                    answer = "idle" if not can else "let" if deed in warden.lets(room) else "forbidden"
                    row.extend([deed] if answer == "let" else [])
                    book.append(("turn", asker, deed, answer))
                    self.assertEqual(play.turn(), (asker, deed, answer))
                    seen.add(answer)
                elif call == "turn":
                    self.assertIsNone(play.turn())
                elif house.deeds().is_free(deed) and deed in house.can(room):
                    self.assertIsNone(play.came(deed))
                    row.append(deed)
                    book.append(("came", deed))
                    seen.add("came")
                else:
                    self.refused(NotNow, play.came, deed)
                room = warden.behind(row)
                self.assertEqual(state_of(play), (room, row, letters, house.is_end(room), book))
        self.assertEqual(seen, {"let", "forbidden", "idle", "came"})


if __name__ == "__main__":
    unittest.main()
