"""Points 12 to 17: reading texts, and the order of their errors."""

import unittest

from foreworth.errors import BadLine, DuplicateMark, Misplaced, NoMark, TooDeep, Unclosed
from foreworth.reader import read


def text_of(*lines):
    return "\n".join(lines)


class ReaderTest(unittest.TestCase):
    def refused(self, text, error, line):
        with self.subTest(text=text), self.assertRaises(error) as caught:
            read(text)
        self.assertEqual(type(caught.exception), error)
        self.assertEqual(caught.exception.line, line)

    def test_example_of_the_interface(self):
        self.assertEqual(read("loop\ndo a 3\nleave\nclose"),
                         (("loop", (("do", "a", 3), ("leave",))),))
        self.refused("do a 03", BadLine, 1)

    def test_each_kind_of_statement(self):
        text = text_of("do a 1", "mark x", "jump x", "stop", "loop", "again", "leave", "close",
                       "choose b 20", "arm", "arm", "do c 3", "close")
        self.assertEqual(read(text), (
            ("do", "a", 1), ("mark", "x"), ("jump", "x"), ("stop",),
            ("loop", (("again",), ("leave",))), ("choose", "b", 20, ((), (("do", "c", 3),))),
        ))

    def test_empty_bodies_and_arms(self):
        self.assertEqual(read("loop\nclose"), (("loop", ()),))
        self.assertEqual(read("choose a 1\narm\narm\narm\narm\nclose"),
                         (("choose", "a", 1, ((), (), (), ())),))

    def test_blocks_in_blocks(self):
        text = text_of("loop", "choose a 1", "arm", "loop", "leave", "close", "arm", "again",
                       "close", "do b 2", "close", "do c 3")
        self.assertEqual(read(text), (
            ("loop", (
                ("choose", "a", 1, ((("loop", (("leave",),)),), (("again",),))),
                ("do", "b", 2),
            )),
            ("do", "c", 3),
        ))

    def test_words_of_the_language_are_words(self):
        self.assertEqual(read("do do 1\nmark loop\njump loop\nmark mark"),
                         (("do", "do", 1), ("mark", "loop"), ("jump", "loop"), ("mark", "mark")))
        self.assertEqual(read("do abcdefgh 999999999999"), (("do", "abcdefgh", 10 ** 12 - 1),))

    def test_jumps_to_marks_anywhere(self):
        read("jump x\nloop\nmark x\nclose")
        read("loop\nmark x\nclose\njump x\njump x")

    def test_empty_lines(self):
        self.refused("", BadLine, 1)
        self.refused("\n", BadLine, 1)
        self.refused("do a 1\n", BadLine, 2)
        self.refused("do a 1\n\ndo b 1", BadLine, 2)
        self.refused("loop\n", BadLine, 2)

    def test_bad_lines(self):
        for line in (
            " ", "do", "do a", "do a ", "do a 1 ", " do a 1", "do  a 1", "do a  1", "do a 1 1",
            "Do a 1", "do A 1", "do a1 1", "do abcdefghi 1", "do a 0", "do a 01", "do a +1",
            "do a -1", "do a 1.0", "do a 1000000000000", "do a x", "do 1 a", "do a 1\r", "do\ta 1",
            "choose", "choose a", "choose a 0", "choose a 1 2", "arm a", "arm ", "close 1",
            "loop a", "leave now", "again 1", "mark", "mark A", "mark a b", "mark abcdefghi",
            "mark ", "jump", "jump 1", "jump a b", "jump a-b", "stop 1", "stop ", "halt", "end",
            "do \u00e9 1", "do a \u00b2", "do a \u0661",
        ):
            self.refused("mark a\n" + line, BadLine, 2)

    def test_behind_a_choose_line_comes_an_arm(self):
        for line in ("do a 1", "choose a 1", "loop", "close", "leave", "again", "mark a", "jump a",
                     "stop"):
            self.refused("choose b 1\n" + line, Misplaced, 2)
            self.refused("loop\nchoose b 1\n" + line, Misplaced, 3)
        self.refused("choose b 1\n", BadLine, 2)

    def test_misplaced_arms(self):
        self.refused("arm", Misplaced, 1)
        self.refused("loop\narm", Misplaced, 2)
        self.refused("do a 1\narm", Misplaced, 2)
        self.refused("choose a 1\narm\nloop\narm", Misplaced, 4)
        self.refused("choose a 1\narm\narm\narm\narm\narm", Misplaced, 6)
        self.refused("choose a 1\narm\narm\nclose\narm", Misplaced, 5)

    def test_misplaced_close(self):
        self.refused("close", Misplaced, 1)
        self.refused("loop\nclose\nclose", Misplaced, 3)
        self.refused("choose a 1\narm\nclose", Misplaced, 3)
        self.refused("choose a 1\narm\ndo b 1\nclose", Misplaced, 4)
        self.refused("choose a 1\narm\nloop\nclose\nclose", Misplaced, 5)

    def test_misplaced_leave_and_again(self):
        for line in ("leave", "again"):
            self.refused(line, Misplaced, 1)
            self.refused("loop\nclose\n" + line, Misplaced, 3)
            self.refused("choose a 1\narm\n" + line, Misplaced, 3)
            read(text_of("loop", "choose a 1", "arm", line, "arm", line, "close", "close"))

    def nested(self, many):
        """The first lines of that many open blocks, the second of which is a choose."""
        lines = ["loop"]
        while len(lines) <= many:
            lines += ["choose a 1", "arm"] if len(lines) == 1 else ["loop"]
        return lines

    def test_too_deep(self):
        lines = self.nested(12)
        self.assertEqual(len(lines), 13)
        self.refused(text_of(*lines, "loop"), TooDeep, 14)
        self.refused(text_of(*lines, "choose a 1"), TooDeep, 14)
        closing = ["close"] * 10 + ["arm", "close", "close"]
        read(text_of(*lines, *closing))
        read(text_of(*lines, "close", "loop", *closing))
        self.refused(text_of(*lines, *closing, *lines, "loop"), TooDeep, 13 + 13 + 14)
        self.refused(text_of(*lines, "do a 1"), Unclosed, 13)

    def test_duplicate_marks(self):
        self.refused("mark a\nmark a", DuplicateMark, 2)
        self.refused("loop\nmark a\nclose\nmark b\nmark a", DuplicateMark, 5)

    def test_unclosed(self):
        self.refused("loop", Unclosed, 1)
        self.refused("loop\nloop\nclose", Unclosed, 1)
        self.refused("loop\nloop\ndo a 1", Unclosed, 2)
        self.refused("loop\nchoose a 1", Unclosed, 2)
        self.refused("loop\nchoose a 1\narm\ndo b 1", Unclosed, 2)
        self.refused("loop\nclose\nloop\ndo a 1", Unclosed, 3)

    def test_no_mark(self):
        self.refused("jump a", NoMark, 1)
        self.refused("mark a\njump a\njump b\njump c", NoMark, 3)
        self.refused("jump a\njump b\nmark a", NoMark, 2)

    def test_order_of_the_faults_of_one_line(self):
        lines = self.nested(12)[:-1]
        # A bad line that would be misplaced, too.
        self.refused("choose a 1\ndo a 0", BadLine, 2)
        self.refused("arm a", BadLine, 1)
        # The twelfth block is a choose, so another one is misplaced before it is too deep.
        self.refused(text_of(*lines, "choose a 1", "loop"), Misplaced, 14)
        self.refused(text_of(*lines, "choose a 1", "choose b 1"), Misplaced, 14)
        # A mark in the wrong place that is marked already.
        self.refused("mark a\nchoose b 1\nmark a", Misplaced, 3)
        self.refused(text_of(*lines, "loop", "loop 1"), BadLine, 14)

    def test_the_first_line_at_fault_counts(self):
        self.refused("mark a\nmark a\nhalt", DuplicateMark, 2)
        self.refused("mark a\nclose\nmark a\nhalt", Misplaced, 2)
        self.refused("loop\njump a\nhalt", BadLine, 3)
        self.refused("jump a\nloop", Unclosed, 2)
        self.refused("jump a\nmark b\nmark b", DuplicateMark, 3)

    def test_many_lines(self):
        lines = [f"do a {price}" for price in range(1, 701)]
        self.assertEqual(len(read(text_of(*lines))), 700)
        self.refused(text_of(*lines, "stop 1"), BadLine, 701)


if __name__ == "__main__":
    unittest.main()
