"""The package's files and the interface's names, arguments and defaults."""

import ast
import inspect
import pathlib
import unittest

from roomward import (books, deeds, desks, errors, houses, least, machines, parts, plays, rounds, rules, sides, texts,
                      warden, weaving)

FOLDER = pathlib.Path(deeds.__file__).resolve().parent

CALLS = (
    (deeds.is_name, ["thing"], {}),
    (deeds.Deeds, ["names", "free"], {"free": None}),
    (deeds.Deeds.names, ["self"], {}),
    (deeds.Deeds.free, ["self"], {}),
    (deeds.Deeds.is_free, ["self", "deed"], {}),
    (deeds.Deeds.bits, ["self", "names"], {}),
    (deeds.Deeds.names_of, ["self", "bits"], {}),
    (errors.NoWarden, ["word", "row"], {}),
    (errors.NoText, ["row"], {}),
    (errors.NoBook, ["row"], {}),
    (machines.Machine, ["deeds", "begin", "ends", "doors", "more"], {"more": None}),
    (machines.Machine.deeds, ["self"], {}),
    (machines.Machine.begin, ["self"], {}),
    (machines.Machine.rooms, ["self"], {}),
    (machines.Machine.ends, ["self"], {}),
    (machines.Machine.knows, ["self"], {}),
    (machines.Machine.at, ["self", "room"], {}),
    (machines.Machine.to, ["self", "room", "deed"], {}),
    (machines.Machine.is_end, ["self", "room"], {}),
    (machines.Machine.behind, ["self", "row"], {}),
    (weaving.Woven, ["machines"], {}),
    (weaving.Woven.begin, ["self"], {}),
    (weaving.Woven.knows, ["self"], {}),
    (weaving.Woven.at, ["self", "room"], {}),
    (weaving.Woven.to, ["self", "room", "deed"], {}),
    (weaving.Woven.is_end, ["self", "room"], {}),
    (weaving.Woven.rooms, ["self"], {}),
    (weaving.made_one, ["woven"], {}),
    (rules.Never, ["deed"], {}),
    (rules.Most, ["deed", "many"], {}),
    (rules.Ahead, ["first", "later"], {}),
    (rules.Turns, ["one", "other"], {}),
    (rules.Hold, ["deed", "other"], {}),
    (rules.Answer, ["deed", "other"], {}),
    (rules.All, ["rules"], {}),
    (rules.Told, ["machine"], {}),
    (rules.Never.machine, ["self", "deeds"], {}),
    (rules.Most.machine, ["self", "deeds"], {}),
    (rules.Ahead.machine, ["self", "deeds"], {}),
    (rules.Turns.machine, ["self", "deeds"], {}),
    (rules.Hold.machine, ["self", "deeds"], {}),
    (rules.Answer.machine, ["self", "deeds"], {}),
    (rules.All.machine, ["self", "deeds"], {}),
    (rules.Told.machine, ["self", "deeds"], {}),
    (rules.keeps, ["rule", "deeds", "row"], {}),
    (houses.House, ["deeds", "plant", "rules"], {}),
    (houses.House.deeds, ["self"], {}),
    (houses.House.knows, ["self"], {}),
    (houses.House.begin, ["self"], {}),
    (houses.House.rooms, ["self"], {}),
    (houses.House.is_end, ["self", "room"], {}),
    (houses.House.can, ["self", "room"], {}),
    (houses.House.breaks, ["self", "room", "deed"], {}),
    (houses.House.to, ["self", "room", "deed"], {}),
    (rounds.rounds, ["house"], {}),
    (rounds.left, ["house"], {}),
    (rounds.unstopped, ["house", "room"], {}),
    (warden.Warden, ["house"], {}),
    (warden.Warden.house, ["self"], {}),
    (warden.Warden.begin, ["self"], {}),
    (warden.Warden.rooms, ["self"], {}),
    (warden.Warden.lets, ["self", "room"], {}),
    (warden.Warden.forbids, ["self", "room"], {}),
    (warden.Warden.to, ["self", "room", "deed"], {}),
    (warden.Warden.why, ["self", "room", "deed"], {}),
    (warden.Warden.behind, ["self", "row"], {}),
    (warden.judge_of, ["warden"], {}),
    (parts.Part, ["warden", "seen"], {}),
    (parts.Part.seen, ["self"], {}),
    (parts.Part.begin, ["self"], {}),
    (parts.Part.behind, ["self", "place", "deed"], {}),
    (parts.Part.lets, ["self", "place"], {}),
    (parts.Part.forbids, ["self", "place"], {}),
    (parts.Part.places, ["self"], {}),
    (parts.Part.place_of, ["self", "row"], {}),
    (parts.differs, ["part"], {}),
    (parts.dead, ["part"], {}),
    (parts.dead_way, ["part"], {}),
    (sides.Sides, ["warden", "sights"], {}),
    (sides.Sides.part, ["self", "k"], {}),
    (sides.Sides.holders, ["self", "deed"], {}),
    (sides.Sides.forbids, ["self", "k", "place"], {}),
    (sides.Sides.lets, ["self", "row"], {}),
    (sides.lapse, ["sides"], {}),
    (least.classes, ["warden"], {}),
    (least.parted, ["warden", "one", "other"], {}),
    (least.least, ["warden"], {}),
    (plays.Play, ["warden"], {}),
    (plays.Play.send, ["self", "asker", "deed"], {}),
    (plays.Play.turn, ["self"], {}),
    (plays.Play.came, ["self", "deed"], {}),
    (plays.Play.room, ["self"], {}),
    (plays.Play.told, ["self"], {}),
    (plays.Play.letters, ["self"], {}),
    (plays.Play.at_end, ["self"], {}),
    (plays.Play.book, ["self"], {}),
    (books.replayed, ["warden", "book"], {}),
    (texts.read, ["text"], {}),
    (texts.written, ["deeds", "plant", "rules"], {}),
    (desks.answers_of, ["text", "rows"], {}),
)


class ThePackage(unittest.TestCase):
    def test_lies_at_the_repository_s_top(self):
        self.assertEqual(FOLDER, pathlib.Path(__file__).resolve().parent.parent / "roomward")

    def test_init_holds_its_first_words_alone(self):
        tree = ast.parse((FOLDER / "__init__.py").read_text())
        self.assertEqual(len(tree.body), 1)
        self.assertTrue(ast.get_docstring(tree))

    def test_arguments_and_defaults(self):
        for call, names, defaults in CALLS:
            parameters = inspect.signature(call).parameters
            with self.subTest(call=call.__qualname__):
                self.assertEqual(list(parameters), names)
                self.assertEqual({name: p.default for name, p in parameters.items() if p.default is not p.empty},
                                 defaults)


if __name__ == "__main__":
    unittest.main()
