"""Point 10: turning tables."""

import itertools
import unittest

from plain import ANT, TRIPLE, dice_of
from streetpapers.corners import bound_stand, colour_rounds, never_bounded
from streetpapers.errors import BadTable, NotTurning
from streetpapers.papers import shows_paper
from streetpapers.walks import walk


def turning(paints, turns):
    return (tuple((paint, turn, 0) for paint, turn in zip(paints, turns)),)


class CornersTest(unittest.TestCase):
    def test_tables_that_do_not_turn(self):
        for table in [
            ((None, (0, 1, 0)),), (((1, 1, 0), (0, 0, 0)),), (((1, 1, 0), (0, 2, 0)),), (((1, 1, 0), (1, 3, 0)),),
            (((0, 1, 0), (0, 3, 0), (2, 1, 0)),), ((None, None),), (ANT[0], ANT[0]),
            (((1, 1, 1), (0, 3, 0)), ((1, 1, 0), (0, 3, 0))),
        ]:
            for function in (colour_rounds, never_bounded, bound_stand):
                with self.assertRaises(NotTurning):
                    function(table)

    def test_no_tables(self):
        for value in (None, (), ((),), (((1, 1, 0),),), [ANT[0]], 5, "1r0 0l0", (((1, 1, 0), (2, 3, 0)),), True):
            for function in (colour_rounds, never_bounded, bound_stand):
                with self.assertRaises(BadTable):
                    function(value)

    def test_rounds(self):
        for paints, rounds in [
            ((1, 0), ((0, 1),)), ((0, 1), ((0,), (1,))), ((1, 2, 0), ((0, 1, 2),)), ((2, 0, 1), ((0, 2, 1),)),
            ((1, 0, 2), ((0, 1), (2,))), ((0, 2, 1), ((0,), (1, 2))), ((2, 1, 0), ((0, 2), (1,))),
            ((5, 3, 4, 1, 2, 0), ((0, 5), (1, 3), (2, 4))), ((3, 5, 2, 4, 0, 1), ((0, 3, 4), (1, 5), (2,))),
        ]:
            for turns in [(1,) * 6, (3,) * 6, (1, 3) * 3]:
                self.assertEqual(colour_rounds(turning(paints, turns)), rounds)

    def test_never_bounded_both_ways(self):
        for paints, turns, answer in [
            ((1, 0), (1, 3), True), ((1, 0), (3, 1), True), ((1, 0), (1, 1), False), ((1, 0), (3, 3), False),
            ((0, 1), (1, 3), False), ((1, 2, 0), (1, 1, 3), True), ((1, 0, 2), (1, 3, 1), False),
            ((1, 0, 3, 2), (1, 3, 3, 1), True), ((1, 0, 3, 2), (1, 3, 3, 3), False),
            ((1, 0, 3, 2), (1, 1, 3, 1), False), ((2, 3, 0, 1), (1, 3, 3, 1), True),
        ]:
            table = turning(paints, turns)
            self.assertIs(never_bounded(table), answer)
            self.assertEqual(bound_stand(table) is None, answer)

    def test_bound_stands(self):
        square = ((0, 0), (0, 1), (1, 0), (1, 1))
        for paints, turns, colour, heading in [
            ((1, 0), (1, 1), 0, 0), ((1, 0), (3, 3), 0, 3), ((1, 0, 2), (1, 3, 1), 2, 0),
            ((1, 0, 2), (1, 3, 3), 2, 3), ((1, 0, 3, 2), (1, 3, 3, 3), 2, 3), ((0, 2, 1), (3, 1, 1), 0, 3),
            ((0, 2, 1), (1, 1, 3), 0, 0), ((3, 1, 2, 0), (1, 3, 1, 3), 1, 3),
        ]:
            floor, walker = bound_stand(turning(paints, turns))
            self.assertEqual(walker, (0, 0, heading, 0))
            self.assertEqual(floor, tuple((x, y, colour) for x, y in square) if colour else ())

    def test_bound_walkers_go_round_for_ever(self):
        square = ((0, 0), (0, 1), (1, 0), (1, 1))
        for many in (2, 3, 4):
            for paints in itertools.permutations(range(many)):
                for turns in itertools.product((1, 3), repeat=many):
                    table = turning(paints, turns)
                    stand = bound_stand(table)
                    self.assertEqual(never_bounded(table), stand is None)
                    self.assertEqual(stand is None, all(
                        len({turns[colour] for colour in colours}) == 2 for colours in colour_rounds(table)))
                    if stand is not None:
                        first = [c for c in colour_rounds(table) if len({turns[k] for k in c}) == 1][0]
                        self.assertTrue(shows_paper(table, *stand, ("round", 0, 4 * len(first))))
                        trod = {walk(table, *stand, done)[1][:2] for done in range(4)}
                        self.assertEqual(tuple(sorted(trod)), square)

    def test_walkers_that_are_never_bounded_leave(self):
        dice = dice_of(7)
        for table in (ANT, TRIPLE):
            self.assertIs(never_bounded(table), True)
            for _ in range(20):
                floor = tuple((x, y, dice.randrange(1, len(table[0]))) for x in range(4) for y in range(4))
                _, walker, done = walk(table, floor, (0, 0, 0, 0), 30000 if table == ANT else 3000)
                self.assertTrue(max(abs(walker[0]), abs(walker[1])) > 20)


if __name__ == "__main__":
    unittest.main()
