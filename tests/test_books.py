"""Books: [9.2], and of the whole [0.2] (f), [0.3], [0.4]."""

import unittest

from helper import ODD_TEXTS, ODD_THINGS, RefusalCase, play_warden, some_things_done, some_wardens, state_of
from roomward.books import replayed
from roomward.errors import NoBook
from roomward.plays import Play

# What was done from a to b, c and a again; a letter waits behind it.
BOOK = [("send", "ann", "bad"), ("send", "bob", "go"), ("send", "ann", "go"), ("turn", "ann", "bad", "forbidden"),
        ("turn", "bob", "go", "let"), ("came", "f0"), ("turn", "ann", "go", "forbidden"), ("send", "cy", "up"),
        ("came", "f1"), ("turn", "cy", "up", "idle"), ("send", "ann", "go")]

# What is no row of any book, of whatever play.
NO_ROWS = [(), ("send",), ("send", "ann"), ("send", "ann", "go", "up"), ("send", "ann", "go", None), ("turn",),
           ("turn", "ann"), ("turn", "ann", "go"), ("turn", "ann", "go", "let", "let"), ("came",), ("came", "f0", "f0"),
           ("came", "f0", None), ("went", "f0"), ("sends", "ann", "go"), ("Send", "ann", "go"), ("", "ann", "go"),
           ("ann", "go"), ("go",), (None,), (None, "ann", "go"), (None, None, None), (0,), (1, 2, 3), (0, "ann", "go"),
           ("send", None, "go"), ("send", "ann", None), ("send", 1, "go"), ("send", "ann", 1), ("send", "", "go"),
           ("send", "Ann", "go"), ("send", "no name", "go"), ("send", "ann", "nothing"), ("send", "ann", "f0"),
           ("turn", None, None, None), ("turn", 1, 2, 3), ("turn", "ann", "go", None), ("turn", "ann", "go", 0),
           ("turn", "ann", "go", "done"), ("turn", "ann", "nothing", "idle"), ("turn", "ann", "f0", "let"),
           ("came", None), ("came", 0), ("came", ""), ("came", "nothing"), ("came", "go"), ("came", "up"),
           ("came", "f2"), ["send", "ann", "go"], ["came", "f0"], ["turn", "ann", "go", "let"], [], "", "send", "came",
           "came f0", "send ann go", "turn", None]


class BookCase(RefusalCase):
    def setUp(self):
        self.warden = play_warden()

    def no_book(self, book, number):
        """Ask that a book is refused with just this number, and stays as it was."""
        kept = list(book)
        error = self.refused(NoBook, replayed, self.warden, book)
        self.assertEqual(error.row, number)
        self.assertIs(type(error.row), int)
        self.assertEqual(book, kept)
        self.assertEqual([type(row) for row in book], [type(row) for row in kept])


class ReadBack(BookCase):
    def test_the_empty_book(self):
        play = replayed(self.warden, [])
        self.assertIsInstance(play, Play)
        self.assertEqual(state_of(play), state_of(Play(self.warden)))

    def test_a_book_of_each_row(self):
        play = replayed(self.warden, BOOK)
        self.assertEqual(state_of(play), (("a", "r0", "r0"), ["go", "f0", "f1"], [("ann", "go")], True, BOOK))
        self.assertEqual(play.turn(), ("ann", "go", "let"))

    def test_by_the_arguments_names(self):
        self.assertEqual(replayed(warden=self.warden, book=BOOK[:2]).book(), BOOK[:2])

    def test_a_book_of_twenty_letters(self):
        book = [("send", "ann", "up")] * 20
        self.assertEqual(len(replayed(self.warden, book).letters()), 20)
        book = book + [("turn", "ann", "up", "idle"), ("send", "bob", "go")]
        self.assertEqual(replayed(self.warden, book).letters(), [("ann", "up")] * 19 + [("bob", "go")])

    def test_a_long_book(self):
        book = [("send", "ann", "go"), ("turn", "ann", "go", "let"), ("came", "f0"), ("came", "f1")] * 60
        self.assertEqual(replayed(self.warden, book).told(), ["go", "f0", "f1"] * 60)

    def test_cut_at_each_place_it_is_the_play_as_it_was_and_goes_on(self):
        cuts = 0
        for seed, warden in enumerate([self.warden] + list(some_wardens())[:40]):
            done = some_things_done(Play(warden), seed, 50)
            states = {0: state_of(Play(warden))}
            for told, state in done:
                states[len(state[4])] = state
            book = done[-1][1][4]
            for place in range(len(book) + 1):
                self.assertEqual(state_of(replayed(warden, book[:place])), states[place])
                cuts += 1
            # From the middle on the one that was read back does what the first one did.
            for middle in (10, 25, 40):
                first = Play(warden)
                some_things_done(first, seed, middle)
                again = replayed(warden, first.book())
                self.assertEqual(some_things_done(again, seed + 1, 30), some_things_done(first, seed + 1, 30))
        self.assertGreater(cuts, 800)

    def test_read_back_twice(self):
        one, other = replayed(self.warden, BOOK), replayed(self.warden, BOOK)
        one.turn()
        self.assertEqual(state_of(other), state_of(replayed(self.warden, BOOK)))
        self.assertEqual((one.room(), other.room()), (("b", "r0", "r0"), ("a", "r0", "r0")))


class WhatIsNoBook(BookCase):
    def test_what_is_no_row_at_each_place(self):
        for row in NO_ROWS:
            for place in range(len(BOOK) + 1):
                with self.subTest(row=row, place=place):
                    self.no_book(BOOK[:place] + [row], place)
                    self.no_book(BOOK[:place] + [row] + BOOK[place + 1:], place)

    def test_another_answer(self):
        for place, row in enumerate(BOOK):
            if row[0] == "turn":
                for answer in {"let", "forbidden", "idle", "", "none", "Let"} - {row[3]}:
                    self.no_book(BOOK[:place] + [row[:3] + (answer,)] + BOOK[place + 1:], place)

    def test_another_asker_or_deed_in_a_turn(self):
        for place, row in enumerate(BOOK):
            if row[0] == "turn":
                for asker in {"ann", "bob", "cy", "", "Ann"} - {row[1]}:
                    self.no_book(BOOK[:place] + [(row[0], asker) + row[2:]] + BOOK[place + 1:], place)
                for deed in {"go", "up", "bad", "f0", "nothing"} - {row[2]}:
                    self.no_book(BOOK[:place] + [(row[0], row[1], deed, row[3])] + BOOK[place + 1:], place)

    def test_a_letter_out_of_its_order(self):
        self.no_book(BOOK[:3] + [("turn", "bob", "go", "let")], 3)
        self.no_book([("send", "ann", "up"), ("send", "bob", "up"), ("turn", "bob", "up", "idle")], 2)

    def test_a_turn_where_no_letter_waits(self):
        for answer in ("let", "idle", "forbidden"):
            self.no_book([("turn", "ann", "go", answer)], 0)
            self.no_book([("send", "ann", "go"), ("turn", "ann", "go", "let"), ("turn", "ann", "go", answer)], 2)
        self.no_book([("turn", None, None, None)], 0)
        self.no_book([("turn",)], 0)

    def test_a_deed_that_can_not_come_now(self):
        for deed in ("f0", "f1", "f2"):
            self.no_book([("came", deed)], 0)
        self.no_book(BOOK[:6] + [("came", "f0")], 6)
        self.no_book(BOOK[:9] + [("came", "f1")], 9)

    def test_a_deed_that_is_not_free(self):
        for deed in ("go", "bad", "up"):
            self.no_book([("came", deed)], 0)
            self.no_book(BOOK[:5] + [("came", deed)], 5)

    def test_a_letter_that_would_be_refused(self):
        for asker in ODD_THINGS + ODD_TEXTS:
            self.no_book([("send", asker, "go")], 0)
        for deed in ODD_THINGS + ODD_TEXTS + ("nothing", "f0", "f1", "f2"):
            self.no_book(BOOK[:4] + [("send", "ann", deed)], 4)

    def test_a_twenty_first_letter(self):
        book = [("send", "ann", "up")] * 20
        self.no_book(book + [("send", "ann", "up")], 20)
        self.no_book(book + [("turn", "ann", "up", "idle")] + [("send", "ann", "up")] * 2, 22)

    def test_rows_of_other_kinds(self):
        for thing in ODD_THINGS + ODD_TEXTS + ({"send": 1}, ("send", ["ann"], "go"), ("came", ["f0"]),
                                               ("came", ("f0",)), (("send", "ann", "go"),), ("turn", ["ann"], {}, [])):
            self.no_book([thing], 0)
            self.no_book(BOOK[:5] + [thing], 5)

    def test_the_first_wrong_row(self):
        self.no_book([None, None], 0)
        self.no_book(BOOK[:2] + ["", ("came", "f2"), None], 2)
        self.no_book(BOOK + [("send", "ann", "f0"), (), ()], len(BOOK))

    def test_a_row_left_out_or_told_twice(self):
        # Without its letter a turn finds the next one, and behind a turn told twice no such letter waits.
        self.no_book(BOOK[1:], 2)
        self.no_book(BOOK[:4] + BOOK[3:], 4)
        self.no_book(BOOK[:6] + BOOK[5:], 6)
        self.no_book(BOOK[:5] + BOOK[6:], 5)

    def test_a_book_of_another_warden(self):
        for warden in some_wardens():
            if "f1" not in warden.house().deeds().names():
                self.assertEqual(self.refused(NoBook, replayed, warden, [("send", "ann", "go"), ("came", "f1")]).row, 1)
                break


class WhoseLists(BookCase):
    def test_the_book_stays_as_it_was_and_may_be_changed(self):
        book = list(BOOK)
        play = replayed(self.warden, book)
        self.assertEqual(book, BOOK)
        book.clear()
        self.assertEqual(play.book(), BOOK)
        play.turn()
        self.assertEqual((book, len(play.book())), ([], len(BOOK) + 1))

    def test_the_play_s_book_is_the_asker_s_own(self):
        play = replayed(self.warden, BOOK)
        play.book().clear()
        play.letters().clear()
        play.told().clear()
        self.assertEqual(state_of(play), state_of(replayed(self.warden, BOOK)))

    def test_the_first_play_stays_where_it_was(self):
        first = Play(self.warden)
        first.send("ann", "go")
        again = replayed(self.warden, first.book())
        again.turn()
        self.assertEqual(first.letters(), [("ann", "go")])
        self.assertEqual((first.room(), again.room()), (("a", "r0", "r0"), ("b", "r0", "r0")))

    def test_what_is_refused_changes_nothing(self):
        first = Play(self.warden)
        first.send("ann", "go")
        kept = state_of(first)
        self.no_book(first.book() + [("came", "f1")], 1)
        self.assertEqual(state_of(first), kept)
        self.assertEqual(replayed(self.warden, BOOK).book(), BOOK)


if __name__ == "__main__":
    unittest.main()
