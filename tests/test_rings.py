"""Point 12: rings."""

import unittest

from plain import ANT, DELTAS, HALTING, PAINTER, STRAIGHT, dice_of, some_floor, some_table, some_undoable
from streetpapers.backs import can_be_undone
from streetpapers.errors import BadFloor, BadNumber, BadTable, BadWalker, TooMany
from streetpapers.rings import ring_life, ring_walk

# Eleven binary figures and a mark: state 0 adds one, state 1 goes on to the mark, where state 0 has counted out.
COUNTER = (((1, 0, 1), (0, 0, 0), None), ((0, 0, 1), (1, 0, 1), (2, 0, 0)))
# The same, going round for ever in state 2 then.
RUNNER = (((1, 0, 1), (0, 0, 0), (2, 0, 2)), COUNTER[1], ((0, 0, 2), (1, 0, 2), (2, 0, 2)))
FIGURES = 11


def counting(laps, back):
    """A floor and a walker that add one so many times, having gone so many squares ahead of that."""
    first = 2 ** FIGURES - laps
    floor = [(x, 0, 1) for x in range(FIGURES) if first >> x & 1] + [(FIGURES, 0, 2)]
    return tuple(floor), (FIGURES + 1 - back, 0, 1, 1)


def plain_ring(table, floor, walker, wide, high, many):
    """The list of (floor, walker) behind 0, 1 .. steps, up to many, or the stop."""
    squares = {(x, y): colour for x, y, colour in floor}
    x, y, heading, state = walker
    stands = []
    for done in range(many + 1):
        held = tuple(sorted((*place, colour) for place, colour in squares.items() if colour))
        stands.append((held, (x, y, heading, state)))
        entry = table[state][squares.get((x, y), 0)]
        if entry is None:
            break
        squares[x, y] = entry[0]
        heading = (heading + entry[1]) % 4
        state = entry[2]
        x = (x + DELTAS[heading][0] + wide) % wide
        y = (y + DELTAS[heading][1] + high) % high
    return stands


def plain_life(stands, many):
    """What the stands behind 0 to many steps tell of a walk's life, None if they don't."""
    seen = {}
    for at, stand in enumerate(stands):
        if stand in seen:
            return (seen[stand], at - seen[stand])
        seen[stand] = at
    return (len(stands) - 1, 0) if len(stands) <= many else None


def some_ring(dice, reach, table):
    wide, high = dice.randrange(1, reach + 1), dice.randrange(1, reach + 1)
    floor = tuple(square for square in some_floor(dice, len(table[0]), reach, 2 * reach)
                  if 0 <= square[0] < wide and 0 <= square[1] < high)
    walker = (dice.randrange(wide), dice.randrange(high), dice.randrange(4), dice.randrange(len(table)))
    return table, floor, walker, wide, high


class RingWalkTest(unittest.TestCase):
    def test_across_each_edge(self):
        for heading, behind in [(0, (1, 2)), (1, (0, 1)), (2, (1, 0)), (3, (2, 1))]:
            edge = {0: (1, 0), 1: (2, 1), 2: (1, 2), 3: (0, 1)}[heading]
            self.assertEqual(ring_walk(PAINTER, (), (*edge, heading, 0), 3, 3, 1),
                             (((*edge, 1),), (*behind, heading, 0), 1))
        for wide, high in [(5, 3), (3, 5), (40, 7), (7, 40)]:
            for heading in range(4):
                long = wide if heading in (1, 3) else high
                self.assertEqual(ring_walk(STRAIGHT, (), (1, 2, heading, 0), wide, high, long)[1], (1, 2, heading, 0))

    def test_the_smallest_and_the_largest_rings(self):
        dice = dice_of(23)
        for wide, high in [(1, 1), (1, 6), (6, 1), (40, 40), (1, 40), (40, 1), (2, 2)]:
            for _ in range(8):
                table = some_table(dice, 3, 3, 0)
                walker = (dice.randrange(wide), dice.randrange(high), dice.randrange(4), dice.randrange(3))
                floor = tuple(square for square in some_floor(dice, 3, 39, 200)
                              if 0 <= square[0] < wide and 0 <= square[1] < high)
                stands = plain_ring(table, floor, walker, wide, high, 60)
                for many in (0, 1, 2, 59, 60):
                    self.assertEqual(ring_walk(table, floor, walker, wide, high, many), (*stands[many], many))
        self.assertEqual(ring_walk(PAINTER, (), (0, 0, 3, 0), 1, 1, 3), (((0, 0, 1),), (0, 0, 3, 0), 3))

    def test_against_plain_walks(self):
        dice = dice_of(24)
        stopped = 0
        for _ in range(150):
            ring = some_ring(dice, 5, some_table(dice, 2, 3, 9))
            stands = plain_ring(*ring, 40)
            for many in (0, 1, 7, 40):
                done = min(many, len(stands) - 1)
                self.assertEqual(ring_walk(*ring, many), (*stands[done], done))
            stopped += len(stands) < 41
        self.assertTrue(10 < stopped < 140)

    def test_a_whole_ring_is_painted(self):
        # Along each row, and then one row on: back where it began, it stands on a painted square.
        table = (((1, 0, 0), (1, 1, 1)), ((1, 3, 0), None))
        floor, walker, done = ring_walk(table, (), (0, 0, 1, 0), 40, 40, 100000)
        self.assertEqual((len(floor), walker[2:]), (1600, (2, 1)))
        self.assertEqual(done, 40 * 41)

    def test_how_many_steps(self):
        self.assertEqual(ring_walk(STRAIGHT, (), (0, 0, 1, 0), 7, 1, 100000), ((), (100000 % 7, 0, 1, 0), 100000))
        for many in (-1, 100001, True, None, "1", 10 ** 60):
            with self.assertRaises(BadNumber):
                ring_walk(STRAIGHT, (), (0, 0, 1, 0), 7, 1, many)


class RingLifeTest(unittest.TestCase):
    def test_stops(self):
        self.assertEqual(ring_life(HALTING, ((0, 0, 1),), (0, 0, 1, 0), 3, 3), (0, 0))
        self.assertEqual(ring_life(HALTING, ((2, 0, 1),), (0, 0, 1, 0), 3, 3), (2, 0))
        self.assertEqual(ring_life(HALTING, ((2, 0, 1),), (0, 0, 3, 0), 3, 3), (1, 0))
        self.assertEqual(ring_life(((None, None),), (), (0, 0, 1, 0), 1, 1), (0, 0))
        self.assertEqual(ring_life(COUNTER, *counting(1, 1), 12, 1), (12, 0))

    def test_rounds_without_a_tail(self):
        self.assertEqual(ring_life(STRAIGHT, (), (3, 0, 1, 0), 7, 2), (0, 7))
        self.assertEqual(ring_life(STRAIGHT, (), (3, 0, 2, 0), 7, 2), (0, 2))
        self.assertEqual(ring_life(STRAIGHT, (), (0, 0, 2, 0), 1, 1), (0, 1))
        self.assertEqual(ring_life(STRAIGHT, (), (0, 0, 2, 0), 40, 40), (0, 40))
        flip = (((1, 0, 0), (2, 0, 0), (0, 0, 0)),)
        self.assertEqual(ring_life(flip, (), (0, 0, 1, 0), 40, 3), (0, 120))

    def test_rounds_with_a_tail(self):
        self.assertEqual(ring_life(PAINTER, (), (3, 0, 1, 0), 7, 2), (7, 7))
        self.assertEqual(ring_life(PAINTER, (), (0, 0, 1, 0), 1, 1), (1, 1))
        self.assertEqual(ring_life(RUNNER, *counting(1, 1), 12, 1), (13, 12))

    def test_unlike_floors_are_told_apart(self):
        # Each lap changes a single square, of any place and colour.
        for wide, high in [(12, 1), (12, 3)]:
            for laps in (1, 2, 3, 500, 1025):
                life = ring_life(COUNTER, *counting(laps, 2), wide, high)
                self.assertEqual(life, (2 + 12 * laps - 1, 0))

    def test_against_plain_walks(self):
        dice = dice_of(25)
        kinds = {}
        for _ in range(400):
            colours = dice.choice([2, 4, 6, 6])
            ring = some_ring(dice, dice.choice([2, 3]), some_table(dice, 2, colours, dice.choice([0, 9])))
            stands = plain_ring(*ring, 1500)
            life = plain_life(stands, 1500)
            if life is not None:
                self.assertEqual(ring_life(*ring), life)
                kinds[min(life[0], 1), min(life[1], 1)] = True
        self.assertEqual(len(kinds), 4)

    def test_no_tail_where_the_table_can_be_undone(self):
        dice = dice_of(26)
        for _ in range(60):
            table = some_undoable(dice, 2, 3, 0)
            self.assertTrue(can_be_undone(table))
            ring = some_ring(dice, 2, table)
            tail, rounds = ring_life(*ring)
            self.assertEqual(tail, 0)
            self.assertEqual(ring_walk(*ring, rounds), (*ring[1:3], rounds))

    def test_up_to_20000_steps(self):
        # 9 + 12 * 1666 - 1 steps to the stop, and one step, or a round, less or more.
        self.assertEqual(ring_life(COUNTER, *counting(1666, 9), 12, 1), (20000, 0))
        self.assertEqual(ring_life(COUNTER, *counting(1666, 8), 12, 1), (19999, 0))
        self.assertEqual(ring_life(RUNNER, *counting(1665, 8), 12, 1), (19988, 12))
        self.assertEqual(ring_life(RUNNER, *counting(1665, 7), 12, 1), (19987, 12))
        for table, laps, back in [(COUNTER, 1666, 10), (COUNTER, 2000, 1), (RUNNER, 1665, 9), (RUNNER, 1666, 9)]:
            with self.assertRaises(TooMany) as caught:
                ring_life(table, *counting(laps, back), 12, 1)
            self.assertEqual(caught.exception.most, 20000)
        with self.assertRaises(TooMany):
            ring_life(ANT, (), (0, 0, 0, 0), 40, 40)


class RingErrorsTest(unittest.TestCase):
    def refused(self, error, table, floor, walker, wide, high, many):
        """Hold both functions to an error, if it isn't one of how many steps."""
        with self.assertRaises(error) as caught:
            ring_walk(table, floor, walker, wide, high, many)
        if 0 <= many <= 100000:
            with self.assertRaises(error):
                ring_life(table, floor, walker, wide, high)
        return caught.exception

    def test_sides(self):
        for side in (0, 41, -1, True, False, None, "3", (3,), 10 ** 60):
            self.refused(BadNumber, ANT, (), (0, 0, 0, 0), side, 5, 1)
            self.refused(BadNumber, ANT, (), (0, 0, 0, 0), 5, side, 1)

    def test_what_does_not_lie_on_the_ring(self):
        for square in [(5, 0, 1), (0, 4, 1), (5, 4, 1), (9, 9, 1), (10 ** 60, 0, 1)]:
            floor = ((0, 0, 1), (1, 3, 1), square) if square[0] else ((0, 0, 1), square)
            error = self.refused(BadFloor, ANT, floor, (0, 0, 0, 0), 5, 4, 1)
            self.assertEqual(error.index, len(floor) - 1)
        for square in [(-1, 0, 1), (0, -1, 1), (-5, -5, 1)]:
            error = self.refused(BadFloor, ANT, (square, (9, 9, 1)), (0, 0, 0, 0), 5, 4, 1)
            self.assertEqual(error.index, 0)
        for place in [(5, 0), (0, 4), (-1, 0), (0, -1), (10 ** 60, 3)]:
            self.refused(BadWalker, ANT, (), (*place, 0, 0), 5, 4, 1)
        self.assertEqual(ring_walk(ANT, ((4, 3, 1),), (4, 3, 0, 0), 5, 4, 0)[2], 0)

    def test_their_order(self):
        off, away = ((7, 0, 1),), (7, 0, 0, 0)
        self.refused(BadTable, ((),), None, None, 0, 0, -1)
        self.assertIsNone(self.refused(BadFloor, ANT, [], None, 0, 0, -1).index)
        self.assertEqual(self.refused(BadFloor, ANT, ((7, 0, 1), (7, 0, 1)), away, 0, 0, -1).index, 1)
        self.refused(BadWalker, ANT, off, (0, 0, 4, 0), 0, 0, -1)
        self.refused(BadNumber, ANT, off, away, 0, 5, 1)
        self.refused(BadNumber, ANT, off, away, 5, 0, 1)
        self.assertEqual(self.refused(BadFloor, ANT, off, away, 5, 5, -1).index, 0)
        self.refused(BadWalker, ANT, (), away, 5, 5, -1)
        self.refused(BadNumber, ANT, (), (0, 0, 0, 0), 5, 5, -1)


if __name__ == "__main__":
    unittest.main()
