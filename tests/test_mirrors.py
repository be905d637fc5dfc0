"""Point 22: tables, floors and walkers, left and right exchanged."""

import unittest

from plain import ANT, FAR, STRAIGHT, TRIPLE, dice_of, some_floor, some_stand, some_table
from streetpapers.errors import BadFloor, BadTable, BadWalker
from streetpapers.finders import find_paper
from streetpapers.mirrors import is_own_mirror, mirrored, mirrored_table, mirrored_walker
from streetpapers.papers import move_of, shows_paper
from streetpapers.walks import walk


class MirrorsTest(unittest.TestCase):
    def test_tables(self):
        self.assertEqual(mirrored_table(ANT), (((1, 3, 0), (0, 1, 0)),))
        self.assertEqual(mirrored_table((((0, 0, 1), None), ((1, 2, 0), (0, 3, 1)))),
                         (((0, 0, 1), None), ((1, 2, 0), (0, 1, 1))))
        self.assertEqual(mirrored_table(((None, None),)), ((None, None),))

    def test_floors(self):
        self.assertEqual(mirrored(()), ())
        self.assertEqual(mirrored(((-3, 5, 1), (-3, 6, 2), (0, -1, 5), (2, 0, 4))),
                         ((-2, 0, 4), (0, -1, 5), (3, 5, 1), (3, 6, 2)))
        self.assertEqual(mirrored(((-FAR, FAR, 1), (FAR, -FAR, 3))), ((-FAR, -FAR, 3), (FAR, FAR, 1)))

    def test_walkers(self):
        for heading, other in [(0, 0), (1, 3), (2, 2), (3, 1)]:
            self.assertEqual(mirrored_walker(ANT, (3, 4, heading, 0)), (-3, 4, other, 0))
        self.assertEqual(mirrored_walker((ANT[0],) * 3, (-FAR, FAR, 1, 2)), (FAR, FAR, 3, 2))

    def test_what_is_its_own_mirror(self):
        for table, answer in [(STRAIGHT, False), (ANT, False), (TRIPLE, False), ((((0, 2, 0), (1, 0, 0)),), True),
                              (((None, None),), True), (((None, (1, 3, 0)),), False), (((None, (1, 2, 0)),), True),
                              ((((0, 0, 0), (1, 0, 1)), ((0, 2, 0), (1, 1, 0))), False)]:
            self.assertIs(is_own_mirror(table), answer)

    def test_twice_mirrored_is_as_before(self):
        dice = dice_of(70)
        for _ in range(200):
            table, floor, walker = some_stand(dice, 4, 6, 6, 9, 20)
            self.assertEqual(mirrored_table(mirrored_table(table)), table)
            self.assertEqual(mirrored(mirrored(floor)), floor)
            self.assertEqual(mirrored_walker(table, mirrored_walker(table, walker)), walker)
            self.assertIs(is_own_mirror(table), mirrored_table(table) == table)
            turns = [entry[1] for state in table for entry in state if entry is not None]
            self.assertIs(is_own_mirror(table), 1 not in turns and 3 not in turns)

    def test_mirrored_stands_walk_mirrored(self):
        dice = dice_of(71)
        kinds = {}
        for _ in range(300):
            table, floor, walker = some_stand(dice, 3, 4, 9, 5, 12)
            other = (mirrored_table(table), mirrored(floor), mirrored_walker(table, walker))
            for many in (0, 1, 2, 20, 100):
                squares, (x, y, heading, state), done = walk(table, floor, walker, many)
                expected = (tuple(sorted((-a, b, colour) for a, b, colour in squares)),
                            (-x, y, {1: 3, 3: 1}.get(heading, heading), state), done)
                self.assertEqual(walk(*other, many), expected)
            paper = find_paper(table, floor, walker, 100, 30)
            if paper is not None:
                kinds[paper[0]] = kinds.get(paper[0], 0) + 1
                self.assertIs(shows_paper(*other, paper), True)
                dx, dy = move_of(table, floor, walker, paper)
                self.assertEqual(move_of(*other, paper), (-dx, dy))
        self.assertTrue(len(kinds) == 3 and min(kinds.values()) > 10, kinds)

    def test_errors_in_their_order(self):
        for value in (None, (), [ANT[0]], (((2, 1, 0), None),), (((1, True, 0), None),)):
            for function, more in [(mirrored_table, ()), (is_own_mirror, ()), (mirrored_walker, (None,))]:
                with self.assertRaises(BadTable):
                    function(value, *more)
        for value in (None, (0, 0, 0), (0, 0, 4, 0), (0, 0, 0, 1), (FAR + 1, 0, 0, 0), (0, 0, True, 0), [0, 0, 0, 0]):
            with self.assertRaises(BadWalker):
                mirrored_walker(ANT, value)
        for value, index in [(None, None), ([], None), (((0, 0, 6),), 0), (((0, 0, 1), (-1, 0, 1)), 1)]:
            with self.assertRaises(BadFloor) as caught:
                mirrored(value)
            self.assertEqual(caught.exception.index, index)
        # A floor of six colours is let by without a table.
        self.assertEqual(mirrored(((1, 0, 5),)), ((-1, 0, 5),))

    def test_random_tables_and_floors_against_plain_words(self):
        dice = dice_of(72)
        for _ in range(100):
            table = some_table(dice, dice.randrange(1, 11), dice.randrange(2, 7), 5)
            self.assertEqual(mirrored_table(table), tuple(tuple(entry and (entry[0], (0, 3, 2, 1)[entry[1]], entry[2])
                                                                for entry in state) for state in table))
            floor = some_floor(dice, 6, 9, 30)
            self.assertEqual(set(mirrored(floor)), {(-x, y, colour) for x, y, colour in floor})
            self.assertEqual(list(mirrored(floor)), sorted(mirrored(floor)))


if __name__ == "__main__":
    unittest.main()
