"""Points 7 and 8: papers, judged for all time, and what they tell."""

import unittest

from plain import (ANT, FAR, HALTING, PAINTER, STRAIGHT, TRIPLE, dice_of, plain_round, plain_stands, plain_street,
                   some_stand)
from streetpapers.errors import BadNumber, BadPaper, BadPlace, TooMany
from streetpapers.finders import find_paper
from streetpapers.papers import colour_at, move_of, painted_at, shows_paper, walker_at

STAND = ((), (0, 0, 0, 0))
EAST = (0, 0, 1, 0)
CIRCLE = (((1, 1, 0), (0, 1, 0)),)
# Straight on, painting the colours ahead with another one: 0 becomes 1, 1 becomes 2, 2 becomes 0.
SHIFT = (((1, 0, 0), (2, 0, 0), (0, 0, 0)),)
# Two steps on, one back: a walker heading left turns round, and its third state turns it round again.
REVISIT = (((1, 2, 1), (1, 2, 1)), ((1, 0, 2), (1, 0, 2)), ((1, 2, 0), (1, 2, 0)))
WEST = (0, 0, 3, 0)


class ShowsPaperTest(unittest.TestCase):
    def shows(self, table, floor, walker, right, wrong):
        for value in right:
            self.assertIs(shows_paper(table, floor, walker, value), True, value)
        for value in wrong:
            self.assertIs(shows_paper(table, floor, walker, value), False, value)

    def test_stops(self):
        self.shows(HALTING, ((5, 0, 1),), EAST, [("stops", 5)],
                   [("stops", 4), ("stops", 6), ("stops", 0), ("round", 5, 1), ("street", 0, 1), ("street", 5, 1)])
        self.shows(HALTING, ((0, 0, 1),), EAST, [("stops", 0)], [("stops", 1), ("round", 0, 1), ("street", 0, 1)])
        self.shows(HALTING, ((100000, 0, 1),), EAST, [("stops", 100000)], [("stops", 99999)])
        self.shows(HALTING, ((100001, 0, 1),), EAST, [], [("stops", 100000), ("stops", 100001)])

    def test_rounds(self):
        self.shows(CIRCLE, *STAND, [("round", 0, 8), ("round", 3, 8), ("round", 0, 16), ("round", 100000, 2000)],
                   [("round", 0, 4), ("round", 0, 7), ("round", 0, 9), ("round", 0, 2008), ("street", 0, 8),
                    ("round", 0, 1), ("round", 0, 0), ("round", -8, 8), ("round", 100001, 8), ("stops", 0)])
        # The first three steps are none of the round.
        table = (((0, 0, 0), (0, 1, 1)), ((0, 1, 1), (1, 1, 1)))
        self.shows(table, ((2, 0, 1),), EAST, [("round", 3, 4), ("round", 4, 4)], [("round", 2, 4), ("round", 0, 4)])

    def test_streets(self):
        self.shows(STRAIGHT, (), EAST, [("street", 0, 1), ("street", 7, 3), ("street", 100000, 2000)],
                   [("street", 0, 0), ("street", 0, 2001), ("street", 100001, 1), ("street", -1, 1), ("round", 0, 1)])
        self.shows(TRIPLE, *STAND, [("street", 39, 18), ("street", 40, 18), ("street", 39, 36)],
                   [("street", 38, 18), ("street", 39, 17), ("street", 39, 19), ("street", 39, 9)])
        self.shows(ANT, *STAND, [("street", 9977, 104), ("street", 20000, 208)],
                   [("street", 9976, 104), ("street", 9977, 103), ("street", 9977, 52), ("round", 9977, 104)])
        self.shows(REVISIT, (), WEST, [("street", 2, 3), ("street", 3, 3), ("street", 2, 6)],
                   [("street", 1, 3), ("street", 0, 3), ("street", 2, 1), ("street", 2, 4)])

    def test_no_move(self):
        self.shows(CIRCLE, *STAND, [], [("street", 0, 8), ("street", 5, 8), ("street", 0, 4)])

    def test_other_headings_and_states(self):
        for table in [(((0, 1, 0), (0, 1, 0)),), (((0, 0, 1), None), ((0, 0, 0), None))]:
            self.shows(table, *STAND, [], [("street", 0, 1)])

    def test_squares_that_were_painted_before(self):
        for at in (1, 2, 5, 500, 99999, 100000, 100001, 10 ** 9, FAR - 1, FAR):
            for table in (STRAIGHT, SHIFT, PAINTER, HALTING):
                self.shows(table, ((at, 0, 1),), EAST, [], [("street", 0, 1), ("street", 0, 2)])
                self.shows(table, ((at, 1, 1),), EAST, [("street", 0, 1), ("street", 0, 2)], [])
                self.shows(table, ((-at, 0, 1),), EAST, [("street", 0, 1)], [])
                self.shows(table, ((0, at, 1),), (0, 0, 0, 0), [("street", 0, 1)], [])
                self.shows(table, ((0, -at, 1),), (0, 0, 0, 0), [], [("street", 0, 1)])
                self.shows(table, ((-at, 0, 1),), (0, 0, 3, 0), [], [("street", 0, 1)])
        self.shows(STRAIGHT, ((-FAR, 5, 1),), (FAR, 5, 3, 0), [], [("street", 0, 1)])
        self.shows(STRAIGHT, ((-FAR, 5, 1),), (FAR, 5, 1, 0), [("street", 0, 1)], [])

    def test_squares_between_the_places_of_a_round(self):
        # With rounds of seven steps, each round's places lie seven apart.
        for at in range(7, 30):
            self.shows(STRAIGHT, ((at, 0, 1),), EAST, [], [("street", 0, 7)])
        self.shows(STRAIGHT, ((3, 0, 1),), EAST, [("street", 4, 7)], [("street", 0, 7), ("street", 3, 7)])

    def test_gaps_between_places_of_one_lane(self):
        # Round by round it goes up, right thrice, down twice, left twice and up, past two squares of its row:
        # what it reads at first there comes from them, and then from the square that it paints behind them.
        turns = (0, 1, 0, 0, 1, 0, 1, 0, 1)
        for paint in (0, 1):
            rows = [((0, turn, (state + 1) % 9), (1, turn, (state + 1) % 9)) for state, turn in enumerate(turns)]
            rows[5] = ((paint, 0, 6), (paint, 0, 6))
            table = tuple(rows)
            for many in range(16):
                floor = tuple((x, 0, 1) for x in range(4) if many >> x & 1)
                right = floor == (((0, 0, 1), (1, 0, 1), (2, 0, 1)) if paint else ())
                self.assertIs(plain_street(table, floor, (0, 0, 0, 0), 0, 9, 12), right)
                self.shows(table, floor, (0, 0, 0, 0), [("street", 36, 9)], [("street", 36, 8), ("street", 36, 10)])
                self.assertIs(shows_paper(table, floor, (0, 0, 0, 0), ("street", 0, 9)), right)
                self.assertFalse(shows_paper(table, (*floor, (9, 0, 1)), (0, 0, 0, 0), ("street", 0, 9)))

    def test_painted_rows_end_somewhere(self):
        row = tuple((x, 0, 1) for x in range(300))
        self.shows(PAINTER, row, EAST, [("street", 300, 1)], [("street", 0, 1), ("street", 299, 1)])
        self.shows(STRAIGHT, row, EAST, [], [("street", 0, 4)])
        self.shows((((0, 1, 0), (1, 0, 0)),), row, EAST, [], [("street", 0, 1), ("street", 0, 2)])

    def test_streets_that_come_upon_what_they_painted(self):
        # Each round steps two on and one back: it comes upon a square that the round before has painted.
        self.shows(REVISIT, ((10 ** 9, 0, 1),), WEST, [], [("street", 2, 3)])
        self.shows(REVISIT, ((-1, 0, 1),), WEST, [("street", 2, 3)], [("street", 1, 3)])
        self.shows(REVISIT, ((0, 0, 1), (1, 0, 1)), WEST, [("street", 0, 3)], [("street", 0, 2)])
        self.shows(REVISIT, ((0, 0, 1), (1, 0, 1), (2, 0, 1)), WEST, [("street", 3, 3)], [("street", 2, 3)])
        # The first round finds at its second place what none paints there later.
        table = (((0, 0, 1), (0, 0, 1)), ((1, 2, 2), (0, 2, 2)), ((1, 2, 0), (1, 2, 0)))
        for floor in [(), ((1, 0, 1),), ((0, 0, 1),), ((2, 0, 1),), ((0, 0, 1), (1, 0, 1))]:
            for first in range(6):
                for period in range(1, 13):
                    answer = plain_street(table, floor, EAST, first, period, 40)
                    self.assertIs(shows_paper(table, floor, EAST, ("street", first, period)), answer)

    def test_what_is_no_paper(self):
        self.shows(STRAIGHT, (), EAST, [], [
            None, 0, True, "", "street", (), [], {}, ("street",), ("street", 0), ("street", 0, 1, 0), ["street", 0, 1],
            ("street", [0], 1), ("street", False, 1), ("street", 0, True), ("street", "0", 1), ("street", 0, None),
            ("Street", 0, 1), (("street",), 0, 1), ([], 0, 1), ({}, 0), ("round", 0), ("stops", 0, 1), (0, 0, 1),
            ("stops", None), ("stops", True), ("stops", -1), ("stops", 100001), ("street", 10 ** 5000, 1),
            ("street", 0, 10 ** 5000), ("unknown",), ("unknown", 0), (None, 0, 1), ("street", 0, -1)])

    def test_too_many(self):
        self.shows(PAINTER, (), EAST, [("street", 3999, 1), ("street", 2000, 2000)], [("stops", 4000)])
        for value in [("street", 4000, 1), ("street", 2001, 2000), ("round", 4000, 1), ("stops", 4001),
                      ("stops", 100000)]:
            with self.assertRaises(TooMany) as caught:
                shows_paper(PAINTER, (), EAST, value)
            self.assertEqual(caught.exception.most, 4000)
        # What has no form of a paper is not walked for.
        self.shows(PAINTER, (), EAST, [], [("street", 100001, 1), ("stops", 100001), ("round", 4000, 2001)])

    def test_all_papers_by_chance(self):
        dice = dice_of(10)
        right = 0
        for _ in range(60):
            stand = some_stand(dice, states=3, stops=dice.choice([0, 8]), many=12)
            for first in range(6):
                for period in range(1, 9):
                    answer = plain_street(*stand, first, period, 3) and plain_street(*stand, first, period, 60)
                    self.assertIs(shows_paper(*stand, ("street", first, period)), answer, (stand, first, period))
                    again = plain_round(*stand, first, period)
                    self.assertIs(shows_paper(*stand, ("round", first, period)), again, (stand, first, period))
                    right += answer
            stands = plain_stands(*stand, 30)
            for many in range(30):
                self.assertIs(shows_paper(*stand, ("stops", many)), len(stands) == many + 1 and many < 30)
        self.assertTrue(right > 100)


class TellingTest(unittest.TestCase):
    def against_plain(self, table, floor, walker, paper, many):
        """Hold what the paper tells against a plain walk."""
        stands = plain_stands(table, floor, walker, many)
        for at in range(many + 1):
            squares, there, _ = stands[min(at, len(stands) - 1)]
            self.assertEqual(walker_at(table, floor, walker, paper, at), there)
            self.assertEqual(painted_at(table, floor, walker, paper, at), len(squares))
            colours = {square[:2]: square[2] for square in squares}
            for dx, dy in [(0, 0), (1, 0), (-1, 0), (0, 1), (0, -1), (2, -2), (-3, 1), (3, 4)]:
                place = (there[0] + dx, there[1] + dy)
                self.assertEqual(colour_at(table, floor, walker, paper, at, place), colours.get(place, 0))

    def test_steps_near_by(self):
        for table, floor, walker, paper, many in [
            (STRAIGHT, (), EAST, ("street", 0, 1), 20), (STRAIGHT, ((2, 0, 1),), EAST, ("street", 4, 7), 30),
            (REVISIT, (), WEST, ("street", 2, 3), 40), (SHIFT, ((-4, 0, 2),), EAST, ("street", 2, 5), 30),
            (TRIPLE, (), (0, 0, 0, 0), ("street", 39, 18), 200), (CIRCLE, (), (0, 0, 0, 0), ("round", 3, 8), 40),
            (HALTING, ((5, 0, 1),), EAST, ("stops", 5), 12), (HALTING, ((0, 0, 1),), EAST, ("stops", 0), 3),
        ]:
            self.against_plain(table, floor, walker, paper, many)

    def test_steps_near_by_by_chance(self):
        dice = dice_of(11)
        kinds = {}
        for _ in range(60):
            stand = some_stand(dice, states=3, stops=9, many=12)
            paper = find_paper(*stand, 80, 20)
            if paper is not None:
                self.against_plain(*stand, paper, 60)
                kinds[paper[0]] = True
        self.assertEqual(len(kinds), 3)

    def test_the_whole_floor_of_a_street(self):
        for at in (0, 39, 40, 56, 57, 58, 75, 200, 399):
            squares = {square[:2]: square[2] for square in plain_stands(TRIPLE, *STAND, at)[-1][0]}
            for x in range(-12, 12):
                for y in range(-12, 12):
                    colour = colour_at(TRIPLE, *STAND, ("street", 39, 18), at, (x, y))
                    self.assertEqual(colour, squares.get((x, y), 0))

    def test_far_on(self):
        paper = ("street", 39, 18)
        near = plain_stands(TRIPLE, *STAND, 39 + 17)
        grown = painted_at(TRIPLE, *STAND, paper, 57) - painted_at(TRIPLE, *STAND, paper, 39)
        for rounds in (10 ** 6, 10 ** 20, (FAR - 60) // 18):
            for more in (0, 1, 17):
                squares, (x, y, heading, state), _ = near[39 + more]
                step = 39 + 18 * rounds + more
                self.assertEqual(walker_at(TRIPLE, *STAND, paper, step), (x + rounds, y + rounds, heading, state))
                self.assertEqual(painted_at(TRIPLE, *STAND, paper, step), len(squares) + grown * rounds)
        self.assertEqual(walker_at(STRAIGHT, (), EAST, ("street", 0, 1), FAR), (FAR, 0, 1, 0))
        self.assertEqual(walker_at(STRAIGHT, (), (FAR, 0, 1, 0), ("street", 0, 1), FAR), (2 * FAR, 0, 1, 0))
        self.assertEqual(painted_at(PAINTER, (), EAST, ("street", 5, 3), FAR), FAR)
        self.assertEqual(painted_at(PAINTER, ((0, 9, 1),), EAST, ("street", 5, 3), FAR), FAR + 1)

    def test_far_on_at_rounds_and_stops(self):
        self.assertEqual(walker_at(CIRCLE, *STAND, ("round", 3, 8), FAR), (0, 0, 0, 0))
        self.assertEqual(painted_at(CIRCLE, *STAND, ("round", 3, 8), FAR - 4), 4)
        self.assertEqual(colour_at(CIRCLE, *STAND, ("round", 3, 8), FAR - 4, (1, 1)), 1)
        self.assertEqual(colour_at(CIRCLE, *STAND, ("round", 3, 8), FAR, (1, 1)), 0)
        stand = (HALTING, ((5, 0, 1),), EAST)
        self.assertEqual(walker_at(*stand, ("stops", 5), FAR), (5, 0, 1, 0))
        self.assertEqual(walker_at(*stand, ("stops", 5), 3), (3, 0, 1, 0))
        self.assertEqual(painted_at(*stand, ("stops", 5), FAR), 1)
        self.assertEqual(colour_at(*stand, ("stops", 5), FAR, (5, 0)), 1)

    def test_places_far_on(self):
        stand, paper = (PAINTER, ((-3, 0, 1), (7, 7, 1)), EAST), ("street", 4, 6)
        for step in (0, 3, 4, 5, 100, 10 ** 30, FAR):
            for place, colour in [
                ((step - 1, 0), int(step > 0)), ((step, 0), 0), ((min(step + 1, FAR), 0), 0), ((-1, 0), 0),
                ((-3, 0), 1), ((7, 7), 1), ((7, 8), 0), ((0, 0), int(step > 0)), ((FAR, 0), 0), ((FAR, FAR), 0),
                ((step // 2, 0), int(step > 0)), ((step // 2, 1), 0),
            ]:
                self.assertEqual(colour_at(*stand, paper, step, place), colour, (step, place))
        # What the lead painted, and what lay there, stays where the street does not come.
        floor, walker, paper = ((0, 0, 1), (0, 5, 1), (3, 5, 1)), (0, 0, 0, 0), ("street", 1, 1)
        for step in (0, 1, 2, 10 ** 40):
            for place, colour in [((0, 5), 1), ((3, 5), 1), ((0, 0), int(step < 1)), ((3, 0), 0), ((3, -5), 0)]:
                self.assertEqual(colour_at(STRAIGHT, floor, walker, paper, step, place), colour)
            self.assertEqual(painted_at(STRAIGHT, floor, walker, paper, step), 3 - int(step > 0))

    def test_moves(self):
        self.assertEqual(move_of(TRIPLE, *STAND, ("street", 39, 18)), (1, 1))
        self.assertEqual(move_of(TRIPLE, *STAND, ("street", 57, 36)), (2, 2))
        self.assertEqual(move_of(STRAIGHT, (), (9, -9, 0, 0), ("street", 3, 2000)), (0, -2000))
        self.assertEqual(move_of(CIRCLE, *STAND, ("round", 0, 8)), (0, 0))
        self.assertEqual(move_of(HALTING, ((5, 0, 1),), EAST, ("stops", 5)), (0, 0))
        self.assertEqual(move_of(HALTING, ((0, 0, 1),), EAST, ("stops", 0)), (0, 0))

    def test_errors_in_their_order(self):
        for paper in [("street", 0, 0), ("round", 0, 1), ("stops", 0), None, ("street", 0, 2001), ["street", 0, 1]]:
            for function, more in [(walker_at, (-1,)), (painted_at, (-1,)), (colour_at, (-1, None)), (move_of, ())]:
                with self.assertRaises(BadPaper):
                    function(STRAIGHT, (), EAST, paper, *more)
        for step in (-1, FAR + 1, True, None, "0", (0,)):
            for function, more in [(walker_at, ()), (painted_at, ()), (colour_at, (None,))]:
                with self.assertRaises(BadNumber):
                    function(STRAIGHT, (), EAST, ("street", 0, 1), step, *more)
        for place in (None, (0,), (0, 0, 0), [0, 0], (FAR + 1, 0), (0, -FAR - 1), (0, True), 5):
            with self.assertRaises(BadPlace):
                colour_at(STRAIGHT, (), EAST, ("street", 0, 1), FAR, place)


if __name__ == "__main__":
    unittest.main()
