"""Points 14 to 16: printing trees."""

import unittest

from foreworth.printer import show
from foreworth.reader import read
from tests.samples import random_trees


class PrinterTest(unittest.TestCase):
    def test_each_kind_of_statement(self):
        self.assertEqual(show((("do", "a", 12),)), "do a 12")
        self.assertEqual(show((("mark", "x"), ("jump", "x"), ("stop",))), "mark x\njump x\nstop")
        self.assertEqual(show((("loop", (("leave",), ("again",))),)), "loop\nleave\nagain\nclose")
        self.assertEqual(show((("loop", ()),)), "loop\nclose")
        self.assertEqual(show((("choose", "a", 3, ((), (("do", "b", 1),), ())),)),
                         "choose a 3\narm\narm\ndo b 1\narm\nclose")

    def test_reading_and_printing(self):
        for tree in random_trees(400):
            text = show(tree)
            self.assertEqual(read(text), tree)
            self.assertEqual(show(read(text)), text)

    def test_printing_what_was_read(self):
        deep = "\n".join(["loop"] * 12 + ["do a 999999999999"] + ["close"] * 12)
        for text in (deep, "choose do 1\narm\nchoose arm 2\narm\narm\nclose\narm\nclose\nstop"):
            self.assertEqual(show(read(text)), text)


if __name__ == "__main__":
    unittest.main()
