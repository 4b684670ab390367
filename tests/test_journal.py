"""Point 85: the lines of deeds."""

import unittest
from random import Random

from foreworth.graph import END
from foreworth.journal import read_deed, write_deed

# Each kind of deed with its line; both ways lead from one to the other.
LINES = [
    (("enter", "p", "do a 1"), "enter p do a 1"),
    (("enter", "abcdefgh", "loop\ndo a 3\nleave\nclose"), "enter abcdefgh loop;do a 3;leave;close"),
    (("enter", "enter", "\n"), "enter enter ;"),
    (("enter", "p", " x  y "), "enter p  x  y "),
    (("enter", "p", " "), "enter p  "),
    (("drop", "p"), "drop p"),
    (("drop", "drop"), "drop drop"),
    (("price", "p", 0, 7), "price p 0 7"),
    (("price", "p", 12, 1000000000), "price p 12 1000000000"),
    (("price", "p", 9999999999, 0), "price p 9999999999 0"),
    (("edge", "p", 3, 0), "edge p 3 0"),
    (("edge", "p", 3, 10), "edge p 3 10"),
    (("edge", "p", 3, END), "edge p 3 end"),
    (("cut", "p", 0, 3), "cut p 0 3"),
    (("team", "p", "t", []), "team p t none"),
    (("team", "p", "t", [[]]), "team p t -"),
    (("team", "p", "t", [[], []]), "team p t -;-"),
    (("team", "p", "t", [[1, 2], []]), "team p t 1,2;-"),
    (("team", "p", "none", [[], [0], [1000000000, 5, 0]]), "team p none -;0;1000000000,5,0"),
    (("undo",), "undo"),
    (("redo",), "redo"),
]
WRONG = [
    # Other words, other numbers of parts and of spaces.
    "", " ", "do a 1", "enter", "enter ", "enter p", "enter p ", "Enter p x", "leave p",
    "drop", "drop ", "drop p ", " drop p", "drop  p", "drop p q", "undo ", " undo", "undo p",
    "redo redo", "undoredo", "undo\n", "drop p\n", "enter p do a 1\ndo b 2", "\nundo",
    "price p 0", "price p 0 1 2", "price p  0 1", "price p 0  1", "price p 0 1 ", "price 0 1",
    "edge p 0", "edge p end", "cut p 0", "team p t", "team p none", "team p t 1 2", "team p t ",
    "team p t  none", "team p t none ", "team p t none none",
    # Names of another form.
    "enter P x", "enter  x", "enter p1 x", "enter abcdefghi x", "drop P", "drop a1", "drop abcdefghi",
    "drop a-b", "drop -", "price P 0 1", "price abcdefghi 0 1", "edge p.q 0 1", "cut 1 0 1",
    "team P t none", "team p T none", "team p abcdefghi none", "team p t1 none", "team p - none",
    # Numbers of another form.
    "price p -1 1", "price p +1 1", "price p 01 1", "price p 00 1", "price p 1 01", "price p 1 -1",
    "price p 12345678901 1", "price p 1 12345678901", "price p 1 00000000001", "price p a 1",
    "price p 1 1.5", "price p 1 1e3", "price p 1 1_0", "price p 1_0 1", "price p 0x1 1", "price p 1, 1",
    "price p end 1", "price p 1 end", "cut p 1 end", "cut p end 1", "edge p end 1", "edge p end end",
    "edge p 1 End", "edge p 1 -1", "edge p 1 ends", "edge p 1 none", "edge p 1 -", "cut p 1 -",
    "cut p 1 none", "price p none 1", "cut p -1 0", "cut p 0 -0", "cut p 0 +0",
    # Rows of another form.
    "team p t ;", "team p t 1;", "team p t ;1", "team p t 1;;2", "team p t 1,", "team p t ,1",
    "team p t 1,,2", "team p t ,", "team p t -,1", "team p t 1,-", "team p t --", "team p t -;",
    "team p t none;none", "team p t none;1", "team p t 1;none", "team p t 01", "team p t 1,02",
    "team p t -1", "team p t +1", "team p t 12345678901", "team p t end", "team p t 1,end",
    "team p t a", "team p t 1.2", "team p t [1]",
]


class JournalTest(unittest.TestCase):
    def test_writing(self):
        for deed, line in LINES:
            self.assertEqual(write_deed(deed), line)

    def test_reading(self):
        for deed, line in LINES:
            self.assertEqual(read_deed(line), deed)
            self.assertIsInstance(read_deed(line), tuple)

    def test_lines_of_another_form(self):
        for line in WRONG:
            self.assertIsNone(read_deed(line), line)

    def test_texts_with_semicolons(self):
        # A semicolon of the line stands for a newline, so it cannot come back.
        self.assertEqual(read_deed("enter p ;;a;"), ("enter", "p", "\n\na\n"))
        self.assertEqual(write_deed(("enter", "p", "a;b\nc")), "enter p a;b;c")

    def test_texts_of_programs_are_not_looked_at(self):
        for text in ("no program", "undo", "end", "-", "none", "0", "team p t none"):
            self.assertEqual(read_deed(f"enter p {text}"), ("enter", "p", text))

    def test_the_limits_of_numbers(self):
        self.assertEqual(read_deed("cut p 1234567890 9999999999"),
                         ("cut", "p", 1234567890, 9999999999))
        self.assertIsNone(read_deed("cut p 10000000000 1"))
        self.assertEqual(read_deed("team p t 9999999999"), ("team", "p", "t", [[9999999999]]))

    def test_letters_and_digits_of_other_alphabets(self):
        for sign in ("\u0661", "\u00b2", "\u00e4", "\uff11"):
            for line in (f"drop {sign}", f"cut p {sign} 1", f"cut p 1 {sign}", f"team p t {sign}",
                         f"edge p 0 {sign}", f"team p {sign} none"):
                self.assertIsNone(read_deed(line), line)

    def test_random_deeds(self):
        source = Random(50)
        for _ in range(500):
            rows = [[source.randint(0, 10 ** source.randint(0, 9))
                     for _ in range(source.randint(0, 3))] for _ in range(source.randint(0, 4))]
            deed = ("team", source.choice(["a", "zz"]), source.choice(["none", "end"]), rows)
            self.assertEqual(read_deed(write_deed(deed)), deed)

    def test_random_lines(self):
        # Lines that are nearly right: whatever can be read is written in the same way.
        source = Random(51)
        read = 0
        for _ in range(8000):
            line = list(source.choice(LINES)[1])
            for _ in range(source.randint(0, 2)):
                place = source.randint(0, len(line))
                line[place:place + source.randint(0, 1)] = source.choice(["", *" 0;,-a1e\n"])
            deed = read_deed("".join(line))
            if deed is not None:
                read += 1
                self.assertEqual(write_deed(deed), "".join(line))
        self.assertGreater(read, 1000)

    def test_arguments_stay_and_what_is_returned_is_new(self):
        rows = [[1, 2], []]
        write_deed(("team", "p", "t", rows))
        self.assertEqual(rows, [[1, 2], []])
        read_deed("team p t 1,2;-")[3][0].clear()
        self.assertEqual(read_deed("team p t 1,2;-"), ("team", "p", "t", [[1, 2], []]))

    def test_long_lines(self):
        rows = [[10 ** 9] * 400 for _ in range(60)]
        line = write_deed(("team", "abcdefgh", "ijklmnop", rows))
        self.assertEqual(len(line), 23 + 60 * 400 * 11 - 1)
        self.assertEqual(read_deed(line), ("team", "abcdefgh", "ijklmnop", rows))
        text = "\n".join(["choose abcdefgh 123456789012"] * 700)
        self.assertEqual(read_deed(write_deed(("enter", "p", text))), ("enter", "p", text))


if __name__ == "__main__":
    unittest.main()
