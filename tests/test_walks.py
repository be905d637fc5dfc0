"""Point 5: walks."""

import unittest

from plain import ANT, DELTAS, FAR, HALTING, PAINTER, STRAIGHT, TRIPLE, dice_of, plain_stands, some_stand
from streetpapers.errors import BadFloor, BadNumber, BadWalker, Stopped, TooMany
from streetpapers.walks import step, walk


def row(many):
    """A floor of many painted squares, far from where the walks go."""
    return tuple((x, 500, 1) for x in range(many))


class WalksTest(unittest.TestCase):
    def too_many(self, function, *values):
        with self.assertRaises(TooMany) as caught:
            function(*values)
        self.assertEqual(caught.exception.most, 4000)

    def test_headings_and_turns(self):
        for heading in range(4):
            for turn in range(4):
                table = (((1, turn, 1), None), (None, None))
                dx, dy = DELTAS[(heading + turn) % 4]
                self.assertEqual(step(table, (), (5, -7, heading, 0)),
                                 (((5, -7, 1),), (5 + dx, dy - 7, (heading + turn) % 4, 1)))

    def test_squares_are_painted_anew_and_made_blank(self):
        table = (((0, 0, 0), (2, 0, 0), (0, 0, 0)),)
        self.assertEqual(step(table, ((0, 0, 1),), (0, 0, 0, 0)), (((0, 0, 2),), (0, -1, 0, 0)))
        self.assertEqual(step(table, ((0, 0, 2),), (0, 0, 0, 0)), ((), (0, -1, 0, 0)))
        self.assertEqual(step(table, (), (0, 0, 0, 0)), ((), (0, -1, 0, 0)))

    def test_walks_against_plain_ones(self):
        dice = dice_of(3)
        for _ in range(150):
            table, floor, walker = some_stand(dice, states=4, colours=6)
            stands = plain_stands(table, floor, walker, 40)
            for many in (0, 1, 2, 7, 40):
                done = min(many, len(stands) - 1)
                self.assertEqual(walk(table, floor, walker, many), (*stands[done][:2], done))
            if len(stands) > 1:
                self.assertEqual(step(table, floor, walker), stands[1][:2])
            else:
                with self.assertRaises(Stopped):
                    step(table, floor, walker)

    def test_the_ant_builds_its_street(self):
        early, late = walk(ANT, (), (0, 0, 0, 0), 10500), walk(ANT, (), (0, 0, 0, 0), 10604)
        move = (late[1][0] - early[1][0], late[1][1] - early[1][1])
        self.assertEqual((abs(move[0]), abs(move[1]), late[1][2:]), (2, 2, early[1][2:]))
        self.assertEqual(len(late[0]) - len(early[0]), 12)

    def test_a_stop(self):
        self.assertEqual(walk(HALTING, ((0, 0, 1),), (0, 0, 1, 0), 9), (((0, 0, 1),), (0, 0, 1, 0), 0))
        self.assertEqual(walk(HALTING, ((3, 0, 1),), (0, 0, 1, 0), 9), (((3, 0, 1),), (3, 0, 1, 0), 3))
        self.assertEqual(walk(HALTING, ((3, 0, 1),), (0, 0, 1, 0), 3), (((3, 0, 1),), (3, 0, 1, 0), 3))
        self.assertEqual(walk(HALTING, ((3, 1, 1),), (0, 0, 1, 0), 9), (((3, 1, 1),), (9, 0, 1, 0), 9))
        with self.assertRaises(Stopped):
            step(HALTING, ((0, 0, 1),), (0, 0, 1, 0))
        with self.assertRaises(Stopped):
            step(((None, None),), (), (0, 0, 1, 0))

    def test_how_many_steps(self):
        self.assertEqual(walk(STRAIGHT, (), (0, 0, 1, 0), 0), ((), (0, 0, 1, 0), 0))
        self.assertEqual(walk(STRAIGHT, (), (0, 0, 1, 0), 100000), ((), (100000, 0, 1, 0), 100000))
        for many in (-1, 100001, True, None, "3", (3,), FAR):
            with self.assertRaises(BadNumber):
                walk(STRAIGHT, (), (0, 0, 1, 0), many)

    def test_walks_beyond_all_places(self):
        self.assertEqual(walk(PAINTER, (), (FAR, FAR, 1, 0), 2),
                         (((FAR, FAR, 1), (FAR + 1, FAR, 1)), (FAR + 2, FAR, 1, 0), 2))
        self.assertEqual(step(PAINTER, (), (-FAR, -FAR, 0, 0)), (((-FAR, -FAR, 1),), (-FAR, -FAR - 1, 0, 0)))

    def test_walkers(self):
        for walker in [(FAR + 1, 0, 0, 0), (0, -FAR - 1, 0, 0), (0, 0, 4, 0), (0, 0, -1, 0), (0, 0, 0, 1),
                       (0, 0, 0, -1), (0, 0, 0), (0, 0, 0, 0, 0), [0, 0, 0, 0], (True, 0, 0, 0), (0, 0, 0, False)]:
            for function, more in [(step, ()), (walk, (1,))]:
                with self.assertRaises(BadWalker):
                    function(ANT, (), walker, *more)

    def test_colours_that_the_table_does_not_have(self):
        self.assertEqual(walk(TRIPLE, ((0, 0, 1), (9, 9, 2)), (0, 0, 0, 0), 0)[2], 0)
        for function, more in [(step, ()), (walk, (1,))]:
            with self.assertRaises(BadFloor) as caught:
                function(ANT, ((0, 0, 1), (9, 9, 2)), (0, 0, 0, 0), *more)
            self.assertEqual(caught.exception.index, 1)

    def test_more_than_4000_painted_squares(self):
        self.assertEqual(len(walk(PAINTER, (), (0, 0, 1, 0), 4000)[0]), 4000)
        self.too_many(walk, PAINTER, (), (0, 0, 1, 0), 4001)
        self.assertEqual(len(step(PAINTER, row(3999), (0, 0, 1, 0))[0]), 4000)
        self.too_many(step, PAINTER, row(4000), (0, 0, 1, 0))
        self.assertEqual(walk(PAINTER, row(4000), (0, 0, 1, 0), 0)[2], 0)

    def test_4000_squares_painted_anew_or_made_blank(self):
        self.assertEqual(walk(PAINTER, row(4000), (0, 500, 1, 0), 4000), (row(4000), (4000, 500, 1, 0), 4000))
        blank = (((0, 0, 0), (0, 0, 0)),)
        self.assertEqual(walk(blank, row(4000), (0, 500, 1, 0), 3999), (((3999, 500, 1),), (3999, 500, 1, 0), 3999))
        # One square made blank makes room for one.
        swap = (((1, 0, 0), (0, 0, 0)),)
        floor = ((-1, 0, 1), *row(3999))
        self.assertEqual(len(walk(swap, floor, (-1, 0, 1, 0), 2)[0]), 4000)
        self.too_many(walk, swap, floor, (-1, 0, 1, 0), 3)

    def test_a_stop_ahead_of_too_many(self):
        table = (((1, 0, 0), None),)
        self.assertEqual(walk(table, row(4000), (0, 500, 1, 0), 9), (row(4000), (0, 500, 1, 0), 0))
        with self.assertRaises(Stopped):
            step(table, row(4000), (0, 500, 1, 0))


if __name__ == "__main__":
    unittest.main()
