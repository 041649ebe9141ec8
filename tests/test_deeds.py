"""Names and deeds: [1.1], and of the whole [0.3], [0.4]."""

import itertools
import unittest

from helper import ODD_TEXTS, ODD_THINGS, RefusalCase
from roomward.deeds import Deeds, is_name
from roomward.errors import NoDeed, NoName, TooMany, TwiceTold

TWELVE = ["m", "k2", "a", "z", "b9", "b10", "open", "shut", "go", "abcdefgh", "a1234567", "q"]


class IsName(unittest.TestCase):
    def test_names(self):
        for text in ("a", "z", "m", "a1", "a0", "z9", "aa", "abc", "abcdefgh", "a1234567", "a0b1c2d3", "abcdefg9"):
            with self.subTest(text=text):
                self.assertIs(is_name(text), True)

    def test_each_sign_alone_and_behind_a_letter(self):
        small = "abcdefghijklmnopqrstuvwxyz"
        for number in range(0, 127):
            sign = chr(number)
            with self.subTest(sign=sign):
                self.assertIs(is_name(sign), sign in small)
                self.assertIs(is_name("a" + sign), sign in small + "0123456789")
                self.assertIs(is_name("abcdefg" + sign), sign in small + "0123456789")
                self.assertIs(is_name("a" + sign + "b"), sign in small + "0123456789")

    def test_lengths(self):
        for many in range(0, 20):
            self.assertIs(is_name("a" * many), 1 <= many <= 8, many)

    def test_texts_that_are_none(self):
        for text in ODD_TEXTS:
            with self.subTest(text=text):
                self.assertIs(is_name(text), False)

    def test_things_of_other_kinds(self):
        for thing in ODD_THINGS:
            self.assertIs(is_name(thing), False)


class DeedsTold(RefusalCase):
    def test_none(self):
        for deeds in (Deeds([]), Deeds([], None), Deeds([], [])):
            self.assertEqual(deeds.names(), [])
            self.assertEqual(deeds.free(), [])
            self.assertEqual(deeds.bits([]), 0)
            self.assertEqual(deeds.names_of(0), [])
            self.refused(NoDeed, deeds.is_free, "a")
            self.refused(NoDeed, deeds.bits, ["a"])

    def test_one(self):
        deeds = Deeds(["go"])
        self.assertEqual(deeds.names(), ["go"])
        self.assertEqual(deeds.free(), [])
        self.assertIs(deeds.is_free("go"), False)
        self.assertEqual((deeds.bits([]), deeds.bits(["go"])), (0, 1))
        self.assertEqual((deeds.names_of(0), deeds.names_of(1)), ([], ["go"]))

    def test_one_free(self):
        deeds = Deeds(["go"], ["go"])
        self.assertEqual(deeds.free(), ["go"])
        self.assertIs(deeds.is_free("go"), True)

    def test_twelve(self):
        deeds = Deeds(TWELVE, ["q", "b9", "a"])
        rising = ["a", "a1234567", "abcdefgh", "b10", "b9", "go", "k2", "m", "open", "q", "shut", "z"]
        self.assertEqual(deeds.names(), rising)
        self.assertEqual(deeds.free(), ["a", "b9", "q"])
        for place, name in enumerate(rising):
            self.assertIs(deeds.is_free(name), name in ("a", "b9", "q"))
            self.assertEqual(deeds.bits([name]), 2 ** place)
            self.assertEqual(deeds.names_of(2 ** place), [name])
        self.assertEqual(deeds.bits(TWELVE), 2 ** 12 - 1)
        self.assertEqual(deeds.names_of(2 ** 12 - 1), rising)

    def test_told_in_any_order(self):
        for told in itertools.permutations(["a", "b", "c10", "c2"]):
            deeds = Deeds(list(told), list(told[:2]))
            self.assertEqual(deeds.names(), ["a", "b", "c10", "c2"])
            self.assertEqual(deeds.free(), sorted(told[:2]))
            self.assertEqual([deeds.bits([name]) for name in ("a", "b", "c10", "c2")], [1, 2, 4, 8])

    def test_free_ones_told_twice(self):
        deeds = Deeds(["b", "a", "c"], ["c", "a", "c", "c", "a"] * 4)
        self.assertEqual(deeds.free(), ["a", "c"])
        self.assertEqual([deeds.is_free(name) for name in "abc"], [True, False, True])

    def test_all_free(self):
        self.assertEqual(Deeds(["b", "a"], ["b", "a"]).free(), ["a", "b"])

    def test_by_the_arguments_names(self):
        deeds = Deeds(names=["a", "b"], free=["b"])
        self.assertEqual((deeds.names(), deeds.free()), (["a", "b"], ["b"]))
        self.assertIs(deeds.is_free(deed="b"), True)
        self.assertEqual(deeds.bits(names=["b"]), 2)
        self.assertEqual(deeds.names_of(bits=2), ["b"])

    def test_two_are_not_mixed_up(self):
        one = Deeds(["a", "b"], ["a"])
        other = Deeds(["b", "c"], ["c"])
        self.assertEqual((one.names(), one.free()), (["a", "b"], ["a"]))
        self.assertEqual((other.names(), other.free()), (["b", "c"], ["c"]))
        self.refused(NoDeed, one.is_free, "c")
        self.refused(NoDeed, other.is_free, "a")


class Bits(RefusalCase):
    def test_back_and_forth(self):
        deeds = Deeds(["d", "b", "a", "c"], ["b"])
        for number in range(16):
            names = [name for place, name in enumerate("abcd") if number // 2 ** place % 2]
            self.assertEqual(deeds.names_of(number), names)
            self.assertEqual(deeds.bits(names), number)
            self.assertEqual(deeds.bits(names[::-1]), number)

    def test_a_deed_told_often_counts_once(self):
        deeds = Deeds(["a", "b", "c"])
        self.assertEqual(deeds.bits(["c", "a", "c"]), 5)
        self.assertEqual(deeds.bits(["b"] * 200), 2)
        self.assertEqual(deeds.names_of(deeds.bits(["c", "a", "a", "c", "c"])), ["a", "c"])

    def test_what_is_no_deed(self):
        deeds = Deeds(["a", "b"], ["a"])
        for thing in ODD_THINGS + ODD_TEXTS + ("c", "ab", "aa"):
            self.refused(NoDeed, deeds.is_free, thing)
            self.refused(NoDeed, deeds.bits, [thing])
            self.refused(NoDeed, deeds.bits, ["a", thing])
            self.refused(NoDeed, deeds.bits, [thing, "b"])
        self.assertEqual((deeds.names(), deeds.free(), deeds.bits(["a", "b"])), (["a", "b"], ["a"], 3))


class DeedsRefused(RefusalCase):
    def test_just_twelve_are_made(self):
        self.assertEqual(len(Deeds(["d" + str(k) for k in range(12)]).names()), 12)

    def test_thirteen(self):
        self.refused(TooMany, Deeds, ["d" + str(k) for k in range(13)])
        self.refused(TooMany, Deeds, ["d" + str(k) for k in range(40)])

    def test_thirteen_ahead_of_all_else(self):
        self.refused(TooMany, Deeds, TWELVE + ["a"])
        self.refused(TooMany, Deeds, ["a"] * 13)
        self.refused(TooMany, Deeds, ["A"] + TWELVE)
        self.refused(TooMany, Deeds, [None] * 13)
        self.refused(TooMany, Deeds, TWELVE + ["a"], ["nowhere"])
        self.refused(TooMany, Deeds, TWELVE + [[]], [None])

    def test_a_name_that_is_none(self):
        for thing in ODD_THINGS + ODD_TEXTS:
            self.refused(NoName, Deeds, [thing])
            self.refused(NoName, Deeds, ["a", thing])
            self.refused(NoName, Deeds, [thing, "a"])

    def test_a_name_that_stands_ahead(self):
        self.refused(TwiceTold, Deeds, ["a", "a"])
        self.refused(TwiceTold, Deeds, ["b", "a", "c", "b"])
        self.refused(TwiceTold, Deeds, TWELVE[:11] + ["m"])

    def test_name_by_name(self):
        self.refused(NoName, Deeds, ["a", "B", "a"])
        self.refused(NoName, Deeds, ["B", "a", "a"])
        self.refused(TwiceTold, Deeds, ["a", "a", "B"])
        self.refused(NoName, Deeds, ["B", "B"])
        self.refused(NoName, Deeds, [None, None])

    def test_a_free_one_that_is_none(self):
        for thing in ODD_THINGS + ODD_TEXTS + ("c", "ab"):
            self.refused(NoDeed, Deeds, ["a", "b"], [thing])
            self.refused(NoDeed, Deeds, ["a", "b"], ["a", thing])
        self.refused(NoDeed, Deeds, [], ["a"])

    def test_names_ahead_of_free_ones(self):
        self.refused(NoName, Deeds, ["a", "B"], ["c"])
        self.refused(NoName, Deeds, ["a", "B"], ["B"])
        self.refused(TwiceTold, Deeds, ["a", "a"], ["c"])

    def test_over_twelve_free_ones_are_not_too_many(self):
        self.assertEqual(Deeds(["a"], ["a"] * 13).free(), ["a"])
        self.refused(NoDeed, Deeds, ["a"], ["a"] * 13 + ["b"])


class WhoseLists(RefusalCase):
    def test_lists_handed_in_are_not_changed(self):
        names, free, row = ["b", "a"], ["b", "b"], ["b", "a", "b"]
        deeds = Deeds(names, free)
        deeds.bits(row)
        self.assertEqual((names, free, row), (["b", "a"], ["b", "b"], ["b", "a", "b"]))
        names, free = ["b", "a"], ["b", "c"]
        self.refused(NoDeed, Deeds, names, free)
        self.assertEqual((names, free), (["b", "a"], ["b", "c"]))

    def test_lists_handed_in_are_not_kept(self):
        names, free = ["b", "a"], ["b"]
        deeds = Deeds(names, free)
        names.append("c")
        names[0] = "z"
        free.append("a")
        free[0] = "z"
        self.assertEqual(deeds.names(), ["a", "b"])
        self.assertEqual(deeds.free(), ["b"])
        self.assertEqual([deeds.is_free("a"), deeds.is_free("b")], [False, True])
        self.assertEqual((deeds.bits(["a"]), deeds.bits(["b"])), (1, 2))
        self.refused(NoDeed, deeds.is_free, "z")

    def test_lists_told_are_the_askers_own(self):
        deeds = Deeds(["a", "b"], ["b"])
        for told in (deeds.names(), deeds.free(), deeds.names_of(3)):
            self.assertIsInstance(told, list)
            told.append("c")
            told[0] = "z"
        self.assertEqual(deeds.names(), ["a", "b"])
        self.assertEqual(deeds.free(), ["b"])
        self.assertEqual(deeds.names_of(3), ["a", "b"])
        self.refused(NoDeed, deeds.bits, ["c"])

    def test_what_is_told_is_not_changed_by_later_asking(self):
        deeds = Deeds(["a", "b"], ["b"])
        names, free = deeds.names(), deeds.free()
        deeds.bits(["a"])
        deeds.names().clear()
        deeds.free().clear()
        self.assertEqual((names, free), (["a", "b"], ["b"]))


if __name__ == "__main__":
    unittest.main()
