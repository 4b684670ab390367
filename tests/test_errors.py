"""The list of errors: base classes, arguments and attributes."""

import inspect
import unittest

from foreworth import errors

DIRECT = {
    "BadNode": ("node",), "Unreachable": ("node",), "NoEnd": ("node",), "BadRing": (),
    "TextError": ("line",), "BareLoop": ("statement",), "BadStart": (),
    "BadRun": ("lane", "place"), "NotStanding": ("node",), "Incomplete": (),
    "BadStay": ("place",), "TooLarge": (), "WildProgram": ("node",), "NoWild": (),
    "BadWord": (), "BadChange": ("node",), "BadDoors": (), "BadOrder": (),
    "MixedGraphs": (), "NotOver": (), "DeskError": (),
}
OF_TEXTS = {
    "BadLine": ("line",), "Misplaced": ("line",), "TooDeep": ("line",),
    "DuplicateMark": ("line",), "Unclosed": ("line",), "NoMark": ("line",),
}
OF_DESKS = {
    "BadName": ("name",), "NameTaken": ("name",), "NoProgram": ("name",),
    "NoTeam": ("name",), "Unending": ("lane",), "BadPolicy": ("name",),
    "NothingToUndo": (), "NothingToRedo": (), "BadJournal": ("line",),
}


class ErrorsTest(unittest.TestCase):
    def check(self, table, base):
        for name, attributes in table.items():
            with self.subTest(name=name):
                found = getattr(errors, name)
                self.assertEqual(found.__bases__, (base,))
                values = tuple(range(7, 7 + len(attributes)))
                error = found(*values)
                self.assertEqual(vars(error), dict(zip(attributes, values)))
                with self.assertRaises(ValueError):
                    raise error
                with self.assertRaises(TypeError):
                    found(*values, 1) if attributes else found(name=1)

    def test_base(self):
        self.assertEqual(errors.ForeworthError.__bases__, (ValueError,))
        self.assertEqual(vars(errors.ForeworthError()), {})

    def test_direct_subclasses(self):
        self.check(DIRECT, errors.ForeworthError)

    def test_errors_of_texts(self):
        self.check(OF_TEXTS, errors.TextError)

    def test_errors_of_desks(self):
        self.check(OF_DESKS, errors.DeskError)

    def test_list_is_whole(self):
        found = [name for name, _ in inspect.getmembers(errors, inspect.isclass)]
        names = ["ForeworthError", *DIRECT, *OF_TEXTS, *OF_DESKS]
        self.assertEqual(sorted(found), sorted(names))


if __name__ == "__main__":
    unittest.main()
