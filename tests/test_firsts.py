"""Point 19: when the walker stands on a place, and the box of what is painted."""

import functools
import unittest

from plain import ANT, FAR, HALTING, PAINTER, STRAIGHT, TRIPLE, dice_of, plain_stands, some_stand
from streetpapers.errors import BadNumber, BadPaper, BadPlace, TooMany
from streetpapers.finders import find_paper
from streetpapers.firsts import first_stood, painted_box, times_stood
from streetpapers.floors import box
from streetpapers.papers import walker_at

CIRCLE = (((1, 1, 0), (0, 1, 0)),)
BLANKER = (((0, 0, 0), (0, 0, 0)),)
# Two steps on, one back, painting: it stands on each place of its way three times.
REVISIT = (((1, 2, 1), (1, 2, 1)), ((1, 0, 2), (1, 0, 2)), ((1, 2, 0), (1, 2, 0)))
# It paints four squares and makes the third and the fourth of them blank again, on its way back and on.
LOOPS = (((1, 0, 1), (1, 0, 1)), ((1, 0, 2), (1, 0, 2)), ((1, 2, 3), (1, 2, 3)), ((0, 2, 4), (0, 2, 4)),
         ((0, 0, 0), (0, 0, 0)))
# Nine steps up, right three times, down twice, left twice and up, whatever it reads: of the row on which a round
# begins it comes by two squares, with two between. It blanks the one, and paints the other.
LADDER = tuple(((0 if state != 5 else 1, turn, (state + 1) % 9), (1 if state != 0 else 0, turn, (state + 1) % 9))
               for state, turn in enumerate([0, 1, 0, 0, 1, 0, 1, 0, 1]))
HEADINGS = [(0, 0, -1), (1, 1, 0), (2, 0, 1), (3, -1, 0)]


@functools.cache
def some_papers():
    """Right papers by chance, each with its stand and the plain walk of it, 400 steps or up to its stop."""
    dice = dice_of(50)
    found = []
    while len(found) < 250:
        stand = some_stand(dice, 3, 3, dice.choice([0, 6, 20]), 6, 12)
        paper = find_paper(*stand, 120, 30)
        if paper is not None:
            if paper[0] != "stops":
                paper = (paper[0], paper[1] + dice.randrange(9), paper[2] * dice.choice([1, 1, 2, 3]))
            found.append((stand, paper, plain_stands(*stand, 400)))
    return found


class FirstStoodTest(unittest.TestCase):
    def first(self, expected, table, floor, walker, paper, place):
        self.assertEqual(first_stood(table, floor, walker, paper, place), expected, (paper, place))

    def test_against_plain_walks(self):
        dice = dice_of(51)
        found, none = {}, {}
        for stand, paper, stands in some_papers():
            places = [stood[1][:2] for stood in stands]
            for x, y in [dice.choice(places) for _ in range(12)]:
                place = (x + dice.randrange(-1, 2), y + dice.randrange(-1, 2))
                step = first_stood(*stand, paper, place)
                if place in places:
                    self.assertEqual(step, places.index(place))
                    found[paper[0]] = found.get(paper[0], 0) + 1
                else:
                    self.assertTrue(step is None or (paper[0] == "street" and step >= len(places)))
                    none[paper[0]] = none.get(paper[0], 0) + (step is None)
        self.assertTrue(min(*found.values(), *none.values()) > 20, (found, none))

    def test_later_rounds_of_streets(self):
        dice = dice_of(52)
        for stand, paper, _ in some_papers():
            if paper[0] == "street":
                places = [walker_at(*stand, paper, step)[:2] for step in range(paper[1] + 5 * paper[2])]
                for place in [dice.choice(places) for _ in range(8)]:
                    self.assertEqual(first_stood(*stand, paper, place), places.index(place))

    def test_at_once_and_before_the_paper_begins(self):
        for paper in [("street", 0, 1), ("street", 7, 3), ("street", 100000, 2000)]:
            for x in (0, 1, 6, 7, 10, 99999, 100001, 102001, FAR - 1, FAR):
                self.first(x, STRAIGHT, (), (0, 0, 1, 0), paper, (x, 0))
            for place in [(-1, 0), (0, 1), (5, -1), (-FAR, 0), (FAR, FAR)]:
                self.first(None, STRAIGHT, (), (0, 0, 1, 0), paper, place)

    def test_far_on_in_each_direction(self):
        for heading, dx, dy in HEADINGS:
            for many in (0, 1, 2, 3000, 10 ** 30 + 1, FAR):
                self.first(many, PAINTER, (), (0, 0, heading, 0), ("street", 3, 2), (many * dx, many * dy))
                if many:
                    self.first(None, PAINTER, (), (0, 0, heading, 0), ("street", 3, 2), (-many * dx, -many * dy))

    def test_a_slanting_street_far_on(self):
        stands = plain_stands(TRIPLE, (), (0, 0, 0, 0), 400)
        places = [stood[1][:2] for stood in stands]
        for paper in [("street", 39, 18), ("street", 41, 36)]:
            for at in range(300, 360):
                x, y = places[at]
                again = places.index((x, y))
                for rounds in (0, 1, 2, 10 ** 20, 10 ** 59):
                    self.first(again + 18 * rounds, TRIPLE, (), (0, 0, 0, 0), paper, (x + rounds, y + rounds))
                self.first(None, TRIPLE, (), (0, 0, 0, 0), paper, (x + 10 ** 20, y + 2 * 10 ** 20))

    def test_a_street_that_comes_by_in_several_rounds(self):
        # A walker that heads left first goes right: it stands on 0, 1, 2, 1, 2, 3, 2, 3, 4 ..
        for rounds in (0, 1, 5, 10 ** 40):
            for x, step in [(2, 2), (3, 5), (4, 8)]:
                self.first(step + 3 * rounds, REVISIT, (), (0, 0, 3, 0), ("street", 2, 3), (x + rounds, 0))
                self.first(step + 3 * rounds, REVISIT, (), (0, 0, 3, 0), ("street", 6, 9), (x + rounds, 0))

    def test_rounds_and_stops(self):
        for paper in [("round", 0, 8), ("round", 5, 16)]:
            for place, step in [((0, 0), 0), ((1, 0), 1), ((1, 1), 2), ((0, 1), 3), ((2, 0), None), ((-1, 0), None)]:
                self.first(step, CIRCLE, (), (0, 0, 0, 0), paper, place)
        floor = ((5, 0, 1),)
        for x, step in [(-1, None), (0, 0), (4, 4), (5, 5), (6, None)]:
            self.first(step, HALTING, floor, (0, 0, 1, 0), ("stops", 5), (x, 0))
        self.first(0, HALTING, floor, (5, 0, 1, 0), ("stops", 0), (5, 0))
        self.first(None, HALTING, floor, (5, 0, 1, 0), ("stops", 0), (6, 0))


class TimesStoodTest(unittest.TestCase):
    def times(self, expected, table, floor, walker, paper, step, place):
        self.assertEqual(times_stood(table, floor, walker, paper, step, place), expected, (paper, step, place))

    def test_against_plain_walks(self):
        dice = dice_of(53)
        most = {"stops": 0, "round": 0, "street": 0}
        for stand, paper, stands in some_papers():
            places = [stood[1][:2] for stood in stands]
            for x, y in [dice.choice(places) for _ in range(8)]:
                place = (x + dice.randrange(-1, 2), y + dice.randrange(-1, 2))
                for step in (0, 1, 2, paper[1], paper[1] + 1, dice.randrange(400), 400):
                    times = places[:step + 1].count(place)
                    self.assertEqual(times_stood(*stand, paper, step, place), times)
                    most[paper[0]] = max(times, most[paper[0]])
        self.assertTrue(min(most.values()) > 2, most)

    def test_rounds_far_on(self):
        for rounds in (0, 1, 2, 10 ** 30, FAR // 8 - 1):
            for paper in [("round", 0, 8), ("round", 3, 8), ("round", 5, 16)]:
                for place, at in [((0, 0), 0), ((1, 0), 1), ((1, 1), 2), ((0, 1), 3)]:
                    for more in range(8):
                        times = 2 * rounds + (more >= at) + (more >= at + 4)
                        self.times(times, CIRCLE, (), (0, 0, 0, 0), paper, 8 * rounds + more, place)
                self.times(0, CIRCLE, (), (0, 0, 0, 0), paper, 8 * rounds, (2, 0))
        # FAR is a multiple of 8.
        self.times(FAR // 4 + 1, CIRCLE, (), (0, 0, 0, 0), ("round", 0, 8), FAR, (0, 0))

    def test_streets_far_on(self):
        for paper in [("street", 2, 3), ("street", 4, 6)]:
            for x in (2, 3, 7, 10 ** 30, FAR // 3 - 3):
                # It comes by x behind 3 x - 4, 3 x - 2 and 3 x steps.
                for step, times in [(3 * x - 5, 0), (3 * x - 4, 1), (3 * x - 3, 1), (3 * x - 2, 2), (3 * x - 1, 2),
                                    (3 * x, 3), (3 * x + 1, 3), (FAR, 3)]:
                    self.times(times, REVISIT, (), (0, 0, 3, 0), paper, step, (x, 0))
            for x, times in [(-1, 0), (0, 1), (1, 2)]:
                self.times(times, REVISIT, (), (0, 0, 3, 0), paper, FAR, (x, 0))
            self.times(0, REVISIT, (), (0, 0, 3, 0), paper, FAR, (5, 1))

    def test_stops(self):
        floor = ((5, 0, 1),)
        for step in (0, 4, 5, 6, 10 ** 40, FAR):
            self.times(int(step >= 5), HALTING, floor, (0, 0, 1, 0), ("stops", 5), step, (5, 0))
            self.times(int(step >= 4), HALTING, floor, (0, 0, 1, 0), ("stops", 5), step, (4, 0))
            self.times(0, HALTING, floor, (0, 0, 1, 0), ("stops", 5), step, (6, 0))
            self.times(1, HALTING, floor, (5, 0, 1, 0), ("stops", 0), step, (5, 0))

    def test_the_ant(self):
        paper = ("street", 9977, 104)
        places = [stood[1][:2] for stood in plain_ant()]
        for place in [(0, 0), (1, 0), places[9977], places[10500], places[12000]]:
            for step in (0, 1, 5000, 9976, 9977, 10081, 11000, 12500):
                self.times(places[:step + 1].count(place), ANT, (), (0, 0, 0, 0), paper, step, place)
            self.times(places.count(place), ANT, (), (0, 0, 0, 0), paper, FAR, place)


def plain_ant():
    """The ant's stands behind 0 .. 12500 steps, the floor left out."""
    squares, stands = {}, []
    x = y = heading = 0
    for _ in range(12501):
        colour = squares.get((x, y), 0)
        stands.append((None, (x, y, heading, 0), colour))
        squares[x, y] = 1 - colour
        heading = (heading + (3 if colour else 1)) % 4
        x += (0, 1, 0, -1)[heading]
        y += (-1, 0, 1, 0)[heading]
    return stands


class PaintedBoxTest(unittest.TestCase):
    def box(self, expected, table, floor, walker, paper, step):
        self.assertEqual(painted_box(table, floor, walker, paper, step), expected, (paper, step))

    def test_against_plain_walks(self):
        dice = dice_of(54)
        blank = {"stops": 0, "round": 0, "street": 0}
        for stand, paper, stands in some_papers():
            for step in (0, 1, 2, paper[1], paper[1] + 1, *[dice.randrange(400) for _ in range(12)], 400):
                expected = box(stands[min(step, len(stands) - 1)][0])
                self.box(expected, *stand, paper, step)
                blank[paper[0]] += expected is None
        self.assertTrue(min(blank.values()) > 20, blank)

    def test_far_on_against_rounds_near_by(self):
        # From some round on, each edge of the box stays or goes on by the move of each round.
        tried = 0
        for stand, paper, _ in some_papers():
            if paper[0] == "street":
                for step in range(paper[1] + 40 * paper[2], paper[1] + 41 * paper[2], 1 + paper[2] // 5):
                    early, late = [painted_box(*stand, paper, step - back * paper[2]) for back in (1, 0)]
                    for rounds in (1, 10, 10 ** 9, 10 ** 55):
                        far = None
                        if late is not None:
                            far = tuple(edge + rounds * (edge - before) for before, edge in zip(early, late))
                        self.box(far, *stand, paper, step + rounds * paper[2])
                        tried += far is not None
        self.assertTrue(tried > 500, tried)

    def test_streets_in_each_direction(self):
        for heading, dx, dy in HEADINGS:
            for step in (1, 2, 3, 4, 5, 100, 10 ** 9, FAR):
                end = ((step - 1) * dx, (step - 1) * dy)
                edges = (min(0, end[0]), min(0, end[1]), max(0, end[0]), max(0, end[1]))
                for paper in [("street", 0, 1), ("street", 3, 2), ("street", 100000, 1999)]:
                    if paper[1] < 4000:
                        self.box(edges, PAINTER, (), (0, 0, heading, 0), paper, step)
                wider = (min(-7, end[0]), min(-9, end[1]), max(0, end[0]), max(0, end[1]))
                self.box(wider, PAINTER, ((-7, -9, 1),), (0, 0, heading, 0), ("street", 3, 2), step)
            self.box(None, PAINTER, (), (0, 0, heading, 0), ("street", 3, 2), 0)
            for step in (0, 1, 10 ** 9, FAR):
                self.box(None, BLANKER, (), (0, 0, heading, 0), ("street", 3, 2), step)
                self.box((-2, 5, -2, 5), BLANKER, ((-2, 5, 1),), (1, 1, heading, 0), ("street", 3, 2), step)

    def test_a_slanting_street(self):
        for paper in [("street", 39, 18), ("street", 50, 54)]:
            stands = plain_stands(TRIPLE, (), (0, 0, 0, 0), 360)
            for more in range(18):
                left, top, right, bottom = box(stands[300 + more][0])
                for rounds in (1, 2, 10 ** 20, 10 ** 58):
                    edges = (left, top, right + rounds, bottom + rounds)
                    self.box(edges, TRIPLE, (), (0, 0, 0, 0), paper, 300 + more + 18 * rounds)

    def test_painted_squares_that_a_street_takes_away(self):
        # It makes the squares blank that it comes upon before the street begins.
        floor = ((0, 0, 1), (1, 0, 1), (2, 0, 1), (2, 3, 1))
        for paper in [("street", 3, 1), ("street", 3, 2), ("street", 10, 7)]:
            for step, edges in [(0, (0, 0, 2, 3)), (1, (1, 0, 2, 3)), (2, (2, 0, 2, 3)), (3, (2, 3, 2, 3)),
                                (50, (2, 3, 2, 3)), (FAR, (2, 3, 2, 3))]:
                self.box(edges, BLANKER, floor, (0, 0, 1, 0), paper, step)
            self.box(None, BLANKER, floor[:3], (0, 0, 1, 0), paper, FAR)
            self.box((0, 0, 1, 0), BLANKER, floor[:3], (2, 0, 1, 0), paper, FAR)

    def test_painted_squares_that_later_rounds_take_away(self):
        # Ahead of it two more squares of its row are painted: the second and the third round make them blank.
        floor = ((0, 0, 1), (1, 0, 1), (2, 0, 1))
        for squares in (floor, (*floor, (2, 5, 1))):
            for step, (held, _, _) in enumerate(plain_stands(LADDER, squares, (0, 0, 0, 0), 120)):
                for paper in [("street", 0, 9), ("street", 5, 9), ("street", 9, 18)]:
                    self.box(box(held), LADDER, squares, (0, 0, 0, 0), paper, step)
        for rounds in (5, 10 ** 9, 10 ** 58):
            for more, left in enumerate([0, 1, 1, 1, 1, 1, 1, 1, 1]):
                edges = (rounds + left, 0, rounds + 2 + (more > 5), 0)
                self.box(edges, LADDER, floor, (0, 0, 0, 0), ("street", 0, 9), 9 * rounds + more)

    def test_squares_painted_for_a_while(self):
        for first in (0, 1, 4):
            for step in (5 * 10 ** 5, 5 * 10 ** 5 + 3, 10 ** 40, 10 ** 40 + 2, FAR):
                near = 60 + step % 5
                held = box(plain_stands(LOOPS, (), (0, 0, 1, 0), near)[near][0])
                x, *_ = walker_at(LOOPS, (), (0, 0, 1, 0), ("street", first, 5), step - near)
                self.box((held[0], held[1], held[2] + x, held[3]), LOOPS, (), (0, 0, 1, 0), ("street", first, 5), step)

    def test_rounds_and_stops(self):
        for rounds in (0, 1, 10 ** 30):
            for more, edges in [(0, None), (1, (0, 0, 0, 0)), (2, (0, 0, 1, 0)), (3, (0, 0, 1, 1)), (4, (0, 0, 1, 1)),
                                (5, (0, 0, 1, 1)), (6, (0, 1, 1, 1)), (7, (0, 1, 0, 1))]:
                for paper in [("round", 0, 8), ("round", 5, 16)]:
                    self.box(edges, CIRCLE, (), (0, 0, 0, 0), paper, 8 * rounds + more)
        for step in (0, 3, 5, 6, FAR):
            self.box((5, 0, 5, 0), HALTING, ((5, 0, 1),), (0, 0, 1, 0), ("stops", 5), step)


class WrongArgumentsTest(unittest.TestCase):
    def refused(self, error, function, *values):
        with self.assertRaises(error) as caught:
            function(*values)
        self.assertIs(type(caught.exception), error)
        return caught.exception

    def test_a_wrong_paper_comes_ahead_of_step_and_place(self):
        stand = (STRAIGHT, (), (0, 0, 1, 0))
        for paper in [("round", 0, 1), ("stops", 3), ("street", 0, 0), ("street", 0, True), None, ["street", 0, 1]]:
            self.refused(BadPaper, first_stood, *stand, paper, None)
            self.refused(BadPaper, times_stood, *stand, paper, -1, None)
            self.refused(BadPaper, painted_box, *stand, paper, -1)

    def test_the_step_comes_ahead_of_the_place(self):
        values = (STRAIGHT, (), (0, 0, 1, 0), ("street", 0, 1))
        for step in (-1, FAR + 1, True, None, "1"):
            self.refused(BadNumber, times_stood, *values, step, None)
            self.refused(BadNumber, painted_box, *values, step)
        for place in [None, (0, FAR + 1), (0, True), [0, 0], (0, 0, 0)]:
            self.refused(BadPlace, times_stood, *values, 0, place)
            self.refused(BadPlace, first_stood, *values, place)

    def test_too_many_comes_behind(self):
        values = (PAINTER, (), (0, 0, 1, 0), ("street", 4000, 1))
        self.refused(BadPlace, first_stood, *values, None)
        self.refused(BadNumber, times_stood, *values, -1, (0, 0))
        self.refused(BadPlace, times_stood, *values, 0, None)
        self.refused(BadNumber, painted_box, *values, FAR + 1)
        for function, more in [(first_stood, ((0, 0),)), (times_stood, (0, (0, 0))), (painted_box, (0,))]:
            self.assertEqual(self.refused(TooMany, function, *values, *more).most, 4000)
        self.assertEqual(first_stood(*values[:3], ("street", 3999, 1), (FAR, 0)), FAR)


if __name__ == "__main__":
    unittest.main()
