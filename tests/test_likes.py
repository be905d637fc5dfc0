"""Point 20: floors on which a walk is the same, and what squares matter to it."""

import unittest

from plain import FAR, HALTING, PAINTER, STRAIGHT, TRIPLE, dice_of, plain_stands, some_stand
from streetpapers.errors import BadFloor, BadPaper, BadPlace, TooMany
from streetpapers.finders import find_paper
from streetpapers.likes import first_unlike, what_matters

EAST = (0, 0, 1, 0)
CIRCLE = (((1, 1, 0), (0, 1, 0)),)
# Two steps on, one back: it reads most places three times.
REVISIT = (((1, 2, 1), (1, 2, 1)), ((1, 0, 2), (1, 0, 2)), ((1, 2, 0), (1, 2, 0)))


def plain_unlike(table, floor, other, walker, many):
    """The least number of steps, up to many, behind which two plain walks read unlike colours, or None."""
    reads, others = [[stand[2] for stand in plain_stands(table, squares, walker, many)] for squares in (floor, other)]
    for at, (one, another) in enumerate(zip(reads, others)):
        if one != another:
            return at
    return None


class FirstUnlikeTest(unittest.TestCase):
    def unlike(self, expected, table, floor, walker, paper, other):
        self.assertEqual(first_unlike(table, floor, walker, paper, other), expected, (paper, other))

    def test_against_both_plain_walks(self):
        dice = dice_of(60)
        kinds = {}
        while sum(kinds.values()) < 600:
            table, floor, walker = some_stand(dice, 3, 3, dice.choice([0, 6, 20]), 5, 10)
            paper = find_paper(table, floor, walker, 80, 20)
            if paper is None:
                continue
            squares = {(x, y): colour for x, y, colour in floor}
            for _ in range(dice.randrange(4)):
                place = (walker[0] + dice.randrange(-2, 3), walker[1] + dice.randrange(-2, 3))
                squares[place] = dice.randrange(len(table[0]))
            other = tuple(sorted((*place, squares[place]) for place in squares if squares[place]))
            # All places that are unlike are near by: what isn't read in so many steps never is.
            expected = plain_unlike(table, floor, other, walker, 300)
            self.unlike(expected, table, floor, walker, paper, other)
            kind = (paper[0], "same" if other == floor else expected is not None)
            kinds[kind] = kinds.get(kind, 0) + 1
        self.assertTrue(len(kinds) == 9 and min(kinds.values()) > 10, kinds)

    def test_the_same_floor(self):
        for floor in [(), ((3, 1, 1),), ((-5, 0, 1), (7, -7, 1))]:
            self.unlike(None, STRAIGHT, floor, EAST, ("street", 0, 1), floor)
        self.unlike(None, HALTING, ((5, 0, 1),), EAST, ("stops", 5), ((5, 0, 1),))
        self.unlike(None, TRIPLE, (), (0, 0, 0, 0), ("street", 39, 18), ())

    def test_places_read_at_once_later_and_never(self):
        for paper in [("street", 0, 1), ("street", 50, 7)]:
            for x in (0, 1, 7, 49, 50, 51, 57):
                self.unlike(x, STRAIGHT, (), EAST, paper, ((x, 0, 1),))
                self.unlike(x, PAINTER, (), EAST, paper, ((x, 0, 1),))
            for place in [(-1, 0), (5, 1), (5, -1), (-FAR, 0), (FAR, FAR)]:
                self.unlike(None, STRAIGHT, (), EAST, paper, ((*place, 1),))

    def test_places_read_far_on_by_a_street_alone(self):
        for x in (100001, 102001, 10 ** 9, 10 ** 40 + 1, FAR):
            for paper in [("street", 0, 1), ("street", 3999, 2000)]:
                self.unlike(x, STRAIGHT, (), EAST, paper, ((x, 0, 1),))
                self.unlike(x, STRAIGHT, (), EAST, paper, ((x - 1, 1, 1), (x, 0, 1)))
                self.unlike(x - 1, STRAIGHT, (), EAST, paper, ((x - 1, 0, 1), (x, 0, 1)))
            # It comes by x first behind 3 x - 4 steps.
            self.unlike(3 * x - 4, REVISIT, (), (0, 0, 3, 0), ("street", 5, 6), ((x, 0, 1),))
        places = [stand[1][:2] for stand in plain_stands(TRIPLE, (), (0, 0, 0, 0), 400)]
        for at in range(300, 318):
            x, y = places[at]
            for rounds in (0, 1, 10 ** 30):
                self.unlike(places.index((x, y)) + 18 * rounds, TRIPLE, (), (0, 0, 0, 0), ("street", 39, 18),
                            ((x + rounds, y + rounds, 2),))

    def test_what_the_walk_paints_does_not_count(self):
        # The place (0, 0) is read at first, painted, and read again in each round.
        self.unlike(0, CIRCLE, (), (0, 0, 0, 0), ("round", 0, 8), ((0, 0, 1),))
        self.unlike(2, CIRCLE, (), (0, 0, 0, 0), ("round", 0, 8), ((1, 1, 1), (9, 9, 1)))
        for place, step in [((0, 0), 0), ((1, 0), 1), ((2, 0), 2)]:
            self.unlike(step, REVISIT, (), (0, 0, 3, 0), ("street", 2, 3), ((*place, 1),))

    def test_what_is_painted_on_the_floor_alone(self):
        floor = ((2, 0, 1), (9, 9, 1))
        self.unlike(2, STRAIGHT, floor, EAST, ("street", 3, 1), ())
        self.unlike(2, STRAIGHT, floor, EAST, ("street", 3, 1), ((9, 9, 1),))
        self.unlike(None, STRAIGHT, floor, EAST, ("street", 3, 1), ((2, 0, 1),))
        # It goes down from (2, 0) on.
        self.unlike(10 ** 20 + 2, STRAIGHT, floor, EAST, ("street", 3, 1), ((2, 0, 1), (2, 10 ** 20, 1)))

    def test_stops(self):
        floor = ((5, 0, 1),)
        # The square at which it stops is read, too; none behind it is.
        self.unlike(5, HALTING, floor, EAST, ("stops", 5), ())
        self.unlike(4, HALTING, floor, EAST, ("stops", 5), ((4, 0, 1), (5, 0, 1)))
        self.unlike(None, HALTING, floor, EAST, ("stops", 5), ((5, 0, 1), (6, 0, 1)))
        self.unlike(0, HALTING, ((0, 0, 1),), EAST, ("stops", 0), ((1, 0, 1),))
        self.unlike(None, HALTING, ((0, 0, 1),), EAST, ("stops", 0), ((0, 0, 1), (1, 0, 1)))

    def test_a_floor_of_many_squares(self):
        # The other walk is not walked: it doesn't matter how much it would paint.
        other = tuple((-x, 1, 1) for x in range(4000, 0, -1))
        self.unlike(None, PAINTER, (), EAST, ("street", 0, 1), other)
        self.unlike(77, PAINTER, (), EAST, ("street", 0, 1), (*other[1:], (77, 0, 1)))

    def test_values_that_are_no_floors(self):
        values = (STRAIGHT, (), EAST, ("street", 0, 1))
        for other, index in [(None, None), ([], None), ("", None), (((0, 0, 1),) * 4001, None), (((0, 0, 2),), 0),
                             (((0, 0, 0),), 0), (((0, 0, 1), (1, 0, 2)), 1), (((0, 0, 1), (0, 0, 1)), 1),
                             (((0, 0, 1), (1, 0, 1), (0, 5, 1)), 2), (((0, 0, True),), 0), (((FAR + 1, 0, 1),), 0)]:
            with self.assertRaises(BadFloor) as caught:
                first_unlike(*values, other)
            self.assertEqual(caught.exception.index, index)
        # The table of three colours has one more.
        first_unlike(TRIPLE, (), (0, 0, 0, 0), ("street", 39, 18), ((0, 0, 2),))

    def test_which_error_comes_first(self):
        for paper in [("street", 0, 0), ("stops", 5), ("round", 0, 1), None]:
            with self.assertRaises(BadPaper):
                first_unlike(STRAIGHT, (), EAST, paper, None)
        with self.assertRaises(BadFloor):
            first_unlike(PAINTER, (), EAST, ("street", 4000, 1), None)
        with self.assertRaises(TooMany) as caught:
            first_unlike(PAINTER, (), EAST, ("street", 4000, 1), ())
        self.assertEqual(caught.exception.most, 4000)


class WhatMattersTest(unittest.TestCase):
    def matters(self, expected, table, floor, walker, paper, corner, end):
        self.assertEqual(what_matters(table, floor, walker, paper, corner, end), expected, (corner, end))

    def test_against_plain_walks(self):
        dice = dice_of(61)
        kinds = {}
        for _ in range(300):
            table, floor, walker = some_stand(dice, 3, 3, dice.choice([0, 6, 20]), 5, 10)
            paper = find_paper(table, floor, walker, 80, 20)
            if paper is not None:
                firsts = {}
                for step, stand in enumerate(plain_stands(table, floor, walker, 400)):
                    firsts.setdefault(stand[1][:2], step)
                left, top = dice.randrange(-9, 6), dice.randrange(-9, 6)
                right, bottom = left + dice.randrange(-1, 20), top + dice.randrange(-1, 20)
                expected = tuple(sorted(((x, y), firsts[x, y]) for x, y in firsts
                                        if left <= x <= right and top <= y <= bottom))
                self.matters(expected, table, floor, walker, paper, (left, top), (right, bottom))
                kinds[paper[0]] = max(len(expected), kinds.get(paper[0], 0))
        self.assertTrue(len(kinds) == 3 and min(kinds.values()) > 3, kinds)

    def test_boxes_of_one_place_and_of_none(self):
        values = (STRAIGHT, (), EAST, ("street", 0, 1))
        for x in (0, 5, 10 ** 30, FAR):
            self.matters((((x, 0), x),), *values, (x, 0), (x, 0))
            self.matters((), *values, (x, 1), (x, 1))
            self.matters((), *values, (x, 0), (x - 1, 0))
            self.matters((), *values, (x, 0), (x, -1))
            self.matters((), *values, (x, 0), (x - 1, -1))
        self.matters((), *values, (FAR, -FAR), (-FAR, FAR))
        self.matters((), *values, (-FAR, FAR), (FAR, -FAR))
        self.matters((), *values, (FAR, FAR), (-FAR, -FAR))
        self.matters((), *values, (-FAR, 1), (FAR, 0))
        self.matters((), *values, (1, -FAR), (0, FAR))
        self.matters((), *values, (-1, 0), (-1, 0))

    def test_boxes_of_400_places_and_more(self):
        values = (STRAIGHT, (), EAST, ("street", 0, 1))
        for far in (0, 10 ** 40):
            self.matters(tuple(((far + k, 0), far + k) for k in range(20)), *values, (far, -10), (far + 19, 9))
            self.matters(tuple(((far + k, 0), far + k) for k in range(400)), *values, (far, 0), (far + 399, 0))
            self.matters((((far, 0), far),), *values, (far, -200), (far, 199))
            for end in [(far + 400, 0), (far, 400), (far + 20, 19), (far + 1, 200), (FAR, 0), (far, FAR), (FAR, FAR)]:
                with self.assertRaises(TooMany) as caught:
                    what_matters(*values, (far, 0), end)
                self.assertEqual(caught.exception.most, 400)

    def test_rounds_stops_and_streets(self):
        self.matters((((0, 0), 0), ((0, 1), 3), ((1, 0), 1), ((1, 1), 2)),
                     CIRCLE, (), (0, 0, 0, 0), ("round", 5, 16), (-3, -3), (3, 3))
        self.matters((((4, 0), 4), ((5, 0), 5)), HALTING, ((5, 0, 1),), EAST, ("stops", 5), (4, -1), (9, 1))
        self.matters((((5, 0), 0),), HALTING, ((5, 0, 1),), (5, 0, 1, 0), ("stops", 0), (4, -1), (9, 1))
        far = 10 ** 20
        self.matters((((far, 0), 3 * far - 4), ((far + 1, 0), 3 * far - 1)),
                     REVISIT, (), (0, 0, 3, 0), ("street", 2, 3), (far, -5), (far + 1, 5))

    def test_which_error_comes_first(self):
        values = (STRAIGHT, (), EAST)
        for paper in [("street", 0, 0), ("stops", 5), None]:
            with self.assertRaises(BadPaper):
                what_matters(*values, paper, None, None)
        for place in [None, (0, FAR + 1), (0, True), [0, 0], (0, 0, 0), 5]:
            for corner, end in [(place, (0, 0)), ((0, 0), place), (place, None)]:
                with self.assertRaises(BadPlace):
                    what_matters(*values, ("street", 0, 1), corner, end)
                with self.assertRaises(BadPlace):
                    what_matters(PAINTER, (), EAST, ("street", 4000, 1), corner, end)
        for end in [(3, 3), (3, 400)]:
            with self.assertRaises(TooMany) as caught:
                what_matters(PAINTER, (), EAST, ("street", 4000, 1), (0, 0), end)
            self.assertEqual(caught.exception.most, 4000)


if __name__ == "__main__":
    unittest.main()
