"""Point 2: tables and their texts."""

import unittest

from plain import dice_of, some_table
from streetpapers.errors import BadTable, InvalidText, NotText
from streetpapers.tables import read_table, write_table


class TablesTest(unittest.TestCase):
    def invalid(self, text):
        with self.assertRaises(InvalidText) as caught:
            read_table(text)
        return caught.exception.place

    def test_texts(self):
        for table, text in [
            ((((0, 0, 0), (0, 1, 0)),), "0a0 0r0"),
            ((((1, 2, 0), (0, 3, 0)),), "1b0 0l0"),
            (((None, None),), "- -"),
            (((None, (5, 0, 0), None, (4, 1, 0), (3, 2, 0), (2, 3, 0)),), "- 5a0 - 4r0 3b0 2l0"),
            (((None, (0, 3, 1)), ((1, 2, 0), None)), "- 0l1 / 1b0 -"),
            (tuple(((1, 1, 9 - k), (0, 2, k)) for k in range(10)),
             " / ".join(f"1r{9 - k} 0b{k}" for k in range(10))),
        ]:
            self.assertEqual(write_table(table), text)
            self.assertEqual(read_table(text), table)

    def test_there_and_back(self):
        dice = dice_of(1)
        for states in range(1, 11):
            for colours in range(2, 7):
                table = some_table(dice, states, colours, 3)
                self.assertEqual(read_table(write_table(table)), table)

    def test_what_is_nearly_a_table(self):
        good = ((1, 1, 0), (0, 3, 0))
        for value in [
            (), good, [good], (list(good),), (good[:1],), (good * 4,), (good,) * 11, (good, good * 2),
            (good, None), (None,), (((1, 1, 0), 0),), (((1, 1, 0), (0, 3)),), (((1, 1, 0), (0, 3, 0, 0)),),
            (((1, 1, 0), [0, 3, 0]),), (((1, 1, 0), (2, 3, 0)),), (((1, 1, 0), (-1, 3, 0)),),
            (((1, 1, 0), (0, 4, 0)),), (((1, 1, 0), (0, -1, 0)),), (((1, 1, 0), (0, 3, 1)),),
            (((1, 1, 0), (0, 3, -1)),), (((True, 1, 0), (0, 3, 0)),), (((1, True, 0), (0, 3, 0)),),
            (((1, 1, False), (0, 3, 0)),), (((1, 1, 0), "0l0"),), (((1, 1, None), (0, 3, 0)),), "1r0 0l0", 0, True,
        ]:
            with self.assertRaises(BadTable):
                write_table(value)

    def test_no_text(self):
        for value in (None, 0, True, ("1r0 0l0",), ["1r0 0l0"], {}):
            with self.assertRaises(NotText):
                read_table(value)

    def test_the_first_word_that_cannot_stand(self):
        for text, place in [
            ("", 0), (" ", 0), ("x", 0), ("1r", 0), ("1r00", 0), ("1x0 0l0", 0), ("rr0 0l0", 0), ("1rr 0l0", 0),
            ("1r0  0l0", 4), ("1r0 0l0 ", 8), (" 1r0 0l0", 0), ("1r0 0l0/ 1r0 0l0", 4), ("1r0\t0l0", 0),
            ("1r0 0l0\n", 4), ("1r0 -- x", 4), ("1r0 0l0 / 1r0 // x", 14), ("1R0 0l0", 0), ("1r0 None", 4),
            ("1r0 0l0 / \u0661r0 0l0", 10), ("/ / -1r0", 4), ("9r9 9l9 9", 8), ("10r0 0l0", 0),
        ]:
            self.assertEqual(self.invalid(text), place, text)

    def test_words_that_make_no_table(self):
        for text in ["-", "/", "1r0", "1r0 0l0 /", "/ 1r0 0l0", "1r0 0l0 / / 1r0 0l0", "1r0 0l0 / 1r0", "2r0 0l0",
                     "1r1 0l0", "- - - - - - -", " / ".join(["- -"] * 11), "9a9 9a9", "- - / - - -"]:
            self.assertEqual(self.invalid(text), 0, text)


if __name__ == "__main__":
    unittest.main()
