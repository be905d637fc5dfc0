"""Point 15: the texts of papers and of walkers."""

import unittest

from plain import FAR
from streetpapers.errors import BadPaper, BadWalker, InvalidText, NotText
from streetpapers.notes import read_paper, read_walker, write_paper, write_walker

NO_TEXTS = (None, 5, True, (), [], {}, ("stops 5",), ["0 0 0 0"])
# Figures of other scripts, signs that look like ones, and blanks that are no space.
ODD_WORDS = ("", "-", "+1", "-0", "00", "01", "-01", "--1", "1-", "0x1", "1_0", "1.0", "1e1", "\u0661", "\u00b2",
             "\uff11", "\u22121", "1\n", "\t1", "\u00a01", "one", "None", "True", "1,", "9" * 62, "1" + "0" * 5000)


class TextsTest(unittest.TestCase):
    def invalid(self, function, text):
        with self.assertRaises(InvalidText) as caught:
            function(text)
        self.assertEqual(caught.exception.place, 0, text)

    def spoilt(self, function, good):
        """Hold a function to refusing texts that are nearly a good one."""
        function(good)
        words = good.split(" ")
        for text in ("", " ", good + " ", " " + good, good.replace(" ", "  ", 1), good.replace(" ", "\t"),
                     good.replace(" ", "\n"), good.replace(" ", "\u00a0"), good.replace(" ", ","), good + "\n",
                     good + " 0", "0 " + good, " ".join(words[:-1]), good.replace(" ", ""), good + "\r", "\ufeff" + good):
            self.invalid(function, text)
        for at in range(len(words)):
            for word in ODD_WORDS:
                self.invalid(function, " ".join([*words[:at], word, *words[at + 1:]]))


class PapersTextTest(TextsTest):
    def test_there_and_back(self):
        for first in (0, 1, 9, 10, 39, 99999, 100000):
            self.assertEqual(write_paper(("stops", first)), f"stops {first}")
            self.assertEqual(read_paper(f"stops {first}"), ("stops", first))
            for period in (1, 10, 18, 1999, 2000):
                for kind in ("round", "street"):
                    self.assertEqual(write_paper((kind, first, period)), f"{kind} {first} {period}")
                    self.assertEqual(read_paper(f"{kind} {first} {period}"), (kind, first, period))

    def test_texts_that_are_nearly_one(self):
        for good in ("stops 5", "round 0 8", "street 39 18"):
            self.spoilt(read_paper, good)

    def test_words_and_limits(self):
        for text in ("stops", "round", "street", "stops 5 5", "round 5", "street 5", "round 1 2 3", "stop 5", "Stops 5",
                     "STOPS 5", "walks 5", "rounds 0 8", "unknown", "5", "5 stops", "stops -1", "stops 100001",
                     "round -1 8", "round 0 0", "round 0 -8", "round 0 2001", "street 100001 1", "street 0 2001",
                     "street 0 0", "stops 1" + "0" * 61, "stops 1" + "0" * 60, "/", "0 0 0 0"):
            self.invalid(read_paper, text)

    def test_no_papers(self):
        for paper in (None, 5, True, "stops 5", (), ("stops",), ("stops", -1), ("stops", 100001), ("stops", True),
                      ("stops", "5"), ("stops", 5, 5), ["stops", 5], ("round", 5), ("round", 5, 0), ("round", 5, 2001),
                      ("street", 5, None), ("street", False, 1), ("street", 0, True), ("walks", 5, 5), (None, 5),
                      (["stops"], 5), ({}, 5, 5), ("stops", 10 ** 5000), ("round", 0, -10 ** 5000), {"stops": 5}):
            with self.assertRaises(BadPaper):
                write_paper(paper)

    def test_no_strings(self):
        for text in NO_TEXTS:
            with self.assertRaises(NotText):
                read_paper(text)


class WalkersTextTest(TextsTest):
    def test_there_and_back(self):
        for x, y in [(0, 0), (1, -1), (-9, 10), (FAR, -FAR), (-FAR, FAR), (FAR - 1, 1 - FAR), (10 ** 59, -10 ** 59)]:
            for heading in range(4):
                for state in (0, 1, 9):
                    text = f"{x} {y} {heading} {state}"
                    self.assertEqual(write_walker((x, y, heading, state)), text)
                    self.assertEqual(read_walker(text), (x, y, heading, state))

    def test_texts_that_are_nearly_one(self):
        self.spoilt(read_walker, "0 -2 3 1")
        self.spoilt(read_walker, f"{FAR} {-FAR} 0 9")

    def test_limits(self):
        for text in (f"{FAR + 1} 0 0 0", f"0 {FAR + 1} 0 0", f"{-FAR - 1} 0 0 0", f"0 {-FAR - 1} 0 0", "0 0 4 0",
                     "0 0 -1 0", "0 0 0 10", "0 0 0 -1", "0 0 0", "0 0 0 0 0", "0", "9" * 61 + " 0 0 0"):
            self.invalid(read_walker, text)

    def test_no_walkers(self):
        for walker in (None, 5, True, "0 0 0 0", (), (0, 0, 0), (0, 0, 0, 0, 0), [0, 0, 0, 0], (0, 0, 4, 0), (0, 0, -1, 0),
                       (0, 0, 0, 10), (0, 0, 0, -1), (FAR + 1, 0, 0, 0), (0, -FAR - 1, 0, 0), (True, 0, 0, 0),
                       (0, False, 0, 0), (0, 0, True, 0), (0, 0, 0, False), ("0", 0, 0, 0), (0, None, 0, 0),
                       (0, 0, 0, 10 ** 5000), (-10 ** 5000, 0, 0, 0), {0: 0}):
            with self.assertRaises(BadWalker):
                write_walker(walker)

    def test_no_strings(self):
        for text in NO_TEXTS:
            with self.assertRaises(NotText):
                read_walker(text)


if __name__ == "__main__":
    unittest.main()
