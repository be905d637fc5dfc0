"""Point 14: a census of the rising tables."""

import itertools
import unittest

from streetpapers.census import census, count_never_bounded
from streetpapers.corners import never_bounded
from streetpapers.errors import BadNumber
from streetpapers.finders import find_paper
from streetpapers.papers import shows_paper
from streetpapers.tables import read_table

START = ((), (0, 0, 0, 0))


def texts(colours):
    """The texts of the rising tables, in their order."""
    found = []
    for turns in itertools.product("rl", repeat=colours):
        found.append(" ".join(f"{colour + 1 if colour + 1 < colours else 0}{turn}0" for colour, turn in enumerate(turns)))
    return found


class CensusTest(unittest.TestCase):
    def test_the_tables_in_their_order(self):
        self.assertEqual([text for text, _ in census(2, 1, 1)], ["1r0 0r0", "1r0 0l0", "1l0 0r0", "1l0 0l0"])
        self.assertEqual([text for text, _ in census(3, 1, 1)][:3], ["1r0 2r0 0r0", "1r0 2r0 0l0", "1r0 2l0 0r0"])
        for colours in (2, 3, 4):
            found = census(colours, 1, 1)
            self.assertIs(type(found), tuple)
            self.assertEqual([text for text, _ in found], texts(colours))
            self.assertEqual(len(found), 2 ** colours)

    def test_what_is_found(self):
        kinds = {}
        for colours, steps, most in [(2, 200, 20), (2, 64, 8), (3, 1, 1), (3, 500, 30), (4, 900, 200), (4, 4000, 200)]:
            for text, paper in census(colours, steps, most):
                table = read_table(text)
                self.assertEqual(paper, find_paper(table, *START, steps, most))
                self.assertTrue(paper is None or shows_paper(table, *START, paper))
                kinds[paper and paper[0]] = True
        self.assertEqual(sorted(kinds, key=str), [None, "round", "street"])

    def test_what_is_known_of_small_tables(self):
        self.assertEqual(census(2, 200, 20), (("1r0 0r0", ("round", 0, 8)), ("1r0 0l0", None), ("1l0 0r0", None),
                                              ("1l0 0l0", ("round", 0, 8))))
        papers = dict(census(3, 4000, 200))
        self.assertEqual(papers["1r0 2r0 0l0"][::2], ("street", 18))
        self.assertEqual(papers["1r0 2r0 0r0"], ("round", 0, 12))
        self.assertEqual(papers["1l0 2l0 0r0"][::2], ("street", 18))

    def test_limits(self):
        self.assertEqual(len(census(2, 4000, 200)), 4)
        for colours in (1, 5, 0, -2, True, None, "2", (2,), 10 ** 60):
            with self.assertRaises(BadNumber):
                census(colours, 1, 1)
            with self.assertRaises(BadNumber):
                count_never_bounded(colours)
        for steps in (0, 4001, -1, True, None, "9", 10 ** 60):
            with self.assertRaises(BadNumber):
                census(2, steps, 1)
        for most in (0, 201, -1, True, None, "9", 10 ** 60):
            with self.assertRaises(BadNumber):
                census(2, 1, most)

    def test_how_many_never_stay_within_bounds(self):
        self.assertEqual([count_never_bounded(colours) for colours in (2, 3, 4)], [2, 6, 14])
        for colours in (2, 3, 4):
            bounded = [text for text, _ in census(colours, 1, 1) if not never_bounded(read_table(text))]
            self.assertEqual(len(bounded), 2)


if __name__ == "__main__":
    unittest.main()
