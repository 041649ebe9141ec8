"""The package's files and the interface's names, arguments and defaults."""

import ast
import inspect
import pathlib
import unittest

from roomward import deeds, errors, machines

FOLDER = pathlib.Path(deeds.__file__).resolve().parent

CALLS = (
    (deeds.is_name, ["thing"], {}),
    (deeds.Deeds, ["names", "free"], {"free": None}),
    (deeds.Deeds.names, ["self"], {}),
    (deeds.Deeds.free, ["self"], {}),
    (deeds.Deeds.is_free, ["self", "deed"], {}),
    (deeds.Deeds.bits, ["self", "names"], {}),
    (deeds.Deeds.names_of, ["self", "bits"], {}),
    (errors.NoWarden, ["word", "row"], {}),
    (errors.NoText, ["row"], {}),
    (errors.NoBook, ["row"], {}),
    (machines.Machine, ["deeds", "begin", "ends", "doors", "more"], {"more": None}),
    (machines.Machine.deeds, ["self"], {}),
    (machines.Machine.begin, ["self"], {}),
    (machines.Machine.rooms, ["self"], {}),
    (machines.Machine.ends, ["self"], {}),
    (machines.Machine.knows, ["self"], {}),
    (machines.Machine.at, ["self", "room"], {}),
    (machines.Machine.to, ["self", "room", "deed"], {}),
    (machines.Machine.is_end, ["self", "room"], {}),
    (machines.Machine.behind, ["self", "row"], {}),
)


class ThePackage(unittest.TestCase):
    def test_lies_at_the_repository_s_top(self):
        self.assertEqual(FOLDER, pathlib.Path(__file__).resolve().parent.parent / "roomward")

    def test_init_holds_its_first_words_alone(self):
        tree = ast.parse((FOLDER / "__init__.py").read_text())
        self.assertEqual(len(tree.body), 1)
        self.assertTrue(ast.get_docstring(tree))

    def test_arguments_and_defaults(self):
        for call, names, defaults in CALLS:
            parameters = inspect.signature(call).parameters
            with self.subTest(call=call.__qualname__):
                self.assertEqual(list(parameters), names)
                self.assertEqual({name: p.default for name, p in parameters.items() if p.default is not p.empty},
                                 defaults)


if __name__ == "__main__":
    unittest.main()
