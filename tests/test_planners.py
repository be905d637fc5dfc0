"""Point 26: plans read from their texts."""

import unittest

from plain import dice_of
from streetpapers.errors import BadLine, NotText
from streetpapers.planners import read_plan
from streetpapers.plans import write_plan

STEP, STOP = ("step",), ("stop",)
OPENERS = ["if 0", "while 1", "repeat 2", "forever", "if 1"]


class ReadTest(unittest.TestCase):
    def reads(self, plan, text):
        self.assertEqual(read_plan(text), plan, text)

    def test_each_kind_of_line(self):
        for lines, block in [
            ([], ()),
            (["step"], (STEP,)),
            (["stop", "step"], (STOP, STEP)),
            (["paint 0", "paint 4"], (("paint", 0), ("paint", 4))),
            (["turn right", "turn back", "turn left"], (("turn", 1), ("turn", 2), ("turn", 3))),
            (["if 3", "step", "else", "stop", "end"], (("if", 3, (STEP,), (STOP,)),)),
            (["if 3", "step", "end"], (("if", 3, (STEP,), ()),)),
            (["if 3", "else", "step", "end"], (("if", 3, (), (STEP,)),)),
            (["if 0", "end", "step"], (("if", 0, (), ()), STEP)),
            (["if 0", "else", "end"], (("if", 0, (), ()),)),
            (["if 0", "step", "else", "end"], (("if", 0, (STEP,), ()),)),
            (["while 2", "step", "end"], (("while", 2, (STEP,)),)),
            (["while 2", "end"], (("while", 2, ()),)),
            (["repeat 0", "step", "end", "repeat 8", "end"], (("repeat", 0, (STEP,)), ("repeat", 8, ()))),
            (["forever", "step", "end", "stop"], (("forever", (STEP,)), STOP)),
            (["if 1", "if 2", "step", "else", "end", "else", "while 0", "stop", "end", "end"],
             (("if", 1, (("if", 2, (STEP,), ()),), (("while", 0, (STOP,)),)),)),
        ]:
            self.reads((5, block), "\n".join(["colours 5", *lines]))
        for colours in range(2, 7):
            self.reads((colours, ()), f"colours {colours}")

    def test_spaces_and_void_lines(self):
        plan = (3, (("while", 0, (STEP, ("turn", 3))),))
        plain = "colours 3\nwhile 0\nstep\nturn left\nend"
        self.reads(plan, plain)
        self.reads(plan, "\n\n   \n" + plain)
        self.reads(plan, plain + "\n")
        self.reads(plan, plain + "\n\n  \n\n")
        self.reads(plan, plain.replace("\n", "\n\n"))
        self.reads(plan, plain.replace("\n", "  \n   "))
        self.reads(plan, "   " + plain.replace(" ", "     ") + "   ")
        dice = dice_of(101)
        for _ in range(50):
            text = "".join((" " * dice.randrange(1, 4) if sign == " " else
                            " " * dice.randrange(3) + "\n" * dice.randrange(1, 3) + " " * dice.randrange(3)
                            if sign == "\n" else sign) for sign in plain)
            self.reads(plan, text)

    def test_depth_and_number_of_parts(self):
        for depth in range(1, 7):
            lines = (OPENERS * 2)[:depth - 1] + ["step"] + ["end"] * (depth - 1)
            plan = read_plan("\n".join(["colours 2", *lines]))
            self.assertEqual(write_plan(plan), "\n".join(["colours 2", *lines]))
        self.reads((2, (STEP,) * 60), "colours 2" + "\nstep" * 60)
        self.reads((2, (("if", 0, (STEP,) * 29, (STEP,) * 30),)),
                   "colours 2\nif 0" + "\nstep" * 29 + "\nelse" + "\nstep" * 30 + "\nend")


class BadLineTest(unittest.TestCase):
    def wrong(self, line, word, *lines):
        """Whether the text of these lines is wrong at a line and a word, also with other lines and spaces about it."""
        for text, more in [("\n".join(lines), 0), ("\n \n" + "\n".join(lines), 2), ("  " + " \n  ".join(lines) + " ", 0),
                           ("\n".join(lines).replace(" ", "   "), 0)]:
            with self.assertRaises(BadLine) as caught:
                read_plan(text)
            found = (caught.exception.line, caught.exception.word)
            self.assertEqual(found, (line + more, word), text)

    def test_words_that_are_none_of_these(self):
        for word in ["steps", "Step", "STEP", "s", "0", "1", "-", "#", "right", "turn\tright", "step\r", "\t", "st ep", "_",
                     "e\u00e9", "step\u00a0"]:
            self.wrong(2, 1, "colours 2", word)
            self.wrong(4, 1, "colours 2", "if 0", "step", word + " 1", "end")
            self.wrong(1, 1, word, "colours 2")

    def test_colours_lacking_or_a_second_time(self):
        self.wrong(1, 1, "step")
        self.wrong(1, 1, "step", "colours 2")
        self.wrong(1, 1, "forever", "end")
        self.wrong(1, 1, "end", "colours 2")
        self.wrong(1, 1, "2 colours")
        self.wrong(2, 1, "colours 2", "colours 2")
        self.wrong(3, 1, "colours 2", "step", "colours 3", "steps")
        self.wrong(3, 1, "colours 2", "if 0", "colours", "end")

    def test_numbers_and_words_that_are_wrong_or_lacking(self):
        for number in ["1", "7", "0", "9", "02", "2.", "two", "-2", "+2", "22", "\u0662", "2\t", "2,", "colours", "\u00b2"]:
            self.wrong(1, 2, "colours " + number)
            self.wrong(1, 2, "colours " + number + " 2", "steps")
        self.wrong(1, 2, "colours")
        self.wrong(1, 2, "colours", "2")
        for word in ["paint", "if", "while"]:
            for number in ["2", "9", "00", "01", "10", "-0", "+1", "-1", "one", "right", "1.", "\u0661", "step"]:
                self.wrong(2, 2, "colours 2", f"{word} {number}", "steps")
            for colours in range(3, 7):
                read_plan(f"colours {colours}\n{word} {colours - 1}" + "\nend" * (word != "paint"))
                self.wrong(2, 2, f"colours {colours}", f"{word} {colours}")
            self.wrong(2, 2, "colours 2", word)
            self.wrong(2, 2, "colours 2", word, "1")
        for number in ["9", "-1", "08", "10", "00", "a", "eight", "8."]:
            self.wrong(2, 2, "colours 2", f"repeat {number}", "end")
        self.wrong(2, 2, "colours 2", "repeat", "end")
        for turn in ["1", "2", "0", "Right", "rights", "around", "up", "r", "turn", "forever"]:
            self.wrong(2, 2, "colours 2", f"turn {turn}")
            self.wrong(2, 2, "colours 2", f"turn {turn} left")
        self.wrong(2, 2, "colours 2", "turn")

    def test_a_word_too_many(self):
        for word in ["step", "stop", "forever"]:
            self.wrong(2, 2, "colours 2", f"{word} 1")
            self.wrong(2, 2, "colours 2", f"{word} {word} 1", "steps")
        for line in ["paint 1", "turn left", "if 1", "while 1", "repeat 1"]:
            self.wrong(2, 3, "colours 2", f"{line} 1")
            self.wrong(2, 3, "colours 2", f"{line} end 1 2", "steps")
        self.wrong(1, 3, "colours 2 2")
        self.wrong(1, 3, "colours 2 step", "step")
        self.wrong(3, 2, "colours 2", "if 0", "else if 1")
        self.wrong(3, 2, "colours 2", "if 0", "end if")
        self.wrong(4, 2, "colours 2", "if 0", "else", "end 1")

    def test_else_and_end_that_cannot_stand(self):
        self.wrong(2, 1, "colours 2", "else")
        self.wrong(2, 1, "colours 2", "end")
        self.wrong(2, 1, "colours 2", "end 1")
        self.wrong(3, 1, "colours 2", "step", "else", "end")
        self.wrong(4, 1, "colours 2", "if 0", "end", "else")
        self.wrong(4, 1, "colours 2", "if 0", "end", "end")
        self.wrong(4, 1, "colours 2", "if 0", "else", "else", "end")
        self.wrong(5, 1, "colours 2", "if 0", "else", "step", "else 1", "end")
        for opener in ["while 0", "repeat 2", "forever"]:
            self.wrong(3, 1, "colours 2", opener, "else", "end")
            # It stands in an if, but the part that is open is none.
            self.wrong(4, 1, "colours 2", "if 0", opener, "else", "end", "end")
        # The second else of the inner one; the outer one may have its own.
        self.wrong(5, 1, "colours 2", "if 0", "if 1", "else", "else")
        read_plan("colours 2\nif 0\nif 1\nelse\nend\nelse\nend")

    def test_the_61st_part(self):
        for word in ["step", "paint 1", "paint", "if 0", "forever 2", "turn up"]:
            self.wrong(62, 1, "colours 2", *["step"] * 60, word)
        self.wrong(64, 1, "colours 2", "if 0", *["step"] * 30, "else", *["step"] * 29, "end", "step")
        self.wrong(63, 1, "colours 2", "forever", *["step"] * 59, "end", "step", "end")
        # What is no part may stand behind the 60th.
        read_plan("\n".join(["colours 2", *["step"] * 59, "if 0", "else", "end", ""]))
        self.wrong(62, 1, "colours 2", *["step"] * 60, "end")
        self.wrong(62, 1, "colours 2", *["step"] * 60, "colours 2")

    def test_a_block_that_would_be_7_deep(self):
        for opener in ["if 0", "while 0", "repeat 0", "forever", "if", "while 7", "forever 1"]:
            self.wrong(7, 1, "colours 2", *OPENERS, opener, *["end"] * 6)
            self.wrong(8, 1, "colours 2", *OPENERS, "step", opener, *["end"] * 6)
        self.wrong(8, 1, "colours 2", "if 0", "else", *OPENERS[1:], "forever")
        text = "\n".join(["colours 2", *OPENERS, *["end"] * 5])
        read_plan(text + text[len("colours 2"):])

    def test_a_part_without_its_end(self):
        for opener in OPENERS:
            self.wrong(3, 1, "colours 2", opener)
            self.wrong(4, 1, "colours 2", opener, "step")
            self.wrong(5, 1, "colours 2", opener, "forever", "end")
        self.wrong(4, 1, "colours 2", "if 0", "else")
        self.wrong(7, 1, "colours 2", *OPENERS)
        # Void lines are lines, too.
        self.wrong(5, 1, "colours 2", "if 0", "", " ")

    def test_a_text_without_colours(self):
        for text, line in [("", 2), (" ", 2), ("\n", 3), ("\n\n", 4), ("   \n  \n ", 4)]:
            with self.assertRaises(BadLine) as caught:
                read_plan(text)
            self.assertEqual((caught.exception.line, caught.exception.word), (line, 1))

    def test_line_by_line(self):
        self.wrong(2, 2, "colours 2", "paint 5 5", "steps")
        self.wrong(2, 3, "colours 2", "paint 1 5", "steps")
        self.wrong(3, 1, "colours 2", "if 0", "steps 1")
        self.wrong(3, 2, "colours 2", "if 0", "paint", "end", "end")

    def test_no_text(self):
        for value in (None, 0, True, (), ("colours 2",), ["colours 2"], {"colours": 2}, (2, ())):
            with self.assertRaises(NotText):
                read_plan(value)


if __name__ == "__main__":
    unittest.main()
