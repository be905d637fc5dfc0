"""Point 21: walks on grounds."""

import unittest

from plain import ANT, DELTAS, FAR, HALTING, PAINTER, STRAIGHT, TRIPLE, dice_of, some_floor, some_stand
from streetpapers.errors import BadFloor, BadGround, BadNumber, BadTable, BadWalker, TooMany
from streetpapers.grounds import ground_walk, ground_walker_at, shows_ground_street
from streetpapers.papers import shows_paper
from streetpapers.walks import walk

EAST = (0, 0, 1, 0)
BLANK = ((0,),)
# Straight on; each square is painted the colour that it has.
SAME = (((0, 0, 0), (1, 0, 0)),)
# It turns to the right on 0 and to the left on 1, leaving all squares as they are.
WEAVER = (((0, 1, 0), (1, 3, 0)),)
# A square of the colour 0 is painted 1 and the other way round; always straight on.
SWAP = (((1, 0, 0), (0, 0, 0)),)


def plain_ground(table, ground, floor, walker, many):
    """The walkers and the colours they read behind 0, 1 .. steps, and the squares unlike the ground in the end."""
    squares = {(x, y): colour for x, y, colour in floor}
    x, y, heading, state = walker

    def own(x, y):
        return ground[y % len(ground)][x % len(ground[0])]
    stands = []
    while True:
        colour = squares.get((x, y), own(x, y))
        stands.append(((x, y, heading, state), colour))
        entry = table[state][colour]
        if entry is None or len(stands) > many:
            return stands, tuple(sorted((*place, squares[place]) for place in squares if squares[place] != own(*place)))
        squares[x, y] = entry[0]
        heading = (heading + entry[1]) % 4
        state = entry[2]
        x += DELTAS[heading][0]
        y += DELTAS[heading][1]


def some_ground(dice, colours, most=6):
    wide = dice.randrange(1, most + 1)
    return tuple(tuple(dice.randrange(colours) for _ in range(wide)) for _ in range(dice.randrange(1, most + 1)))


class GroundWalkTest(unittest.TestCase):
    def test_against_plain_walks(self):
        dice = dice_of(80)
        sizes = set()
        for _ in range(400):
            table, floor, walker = some_stand(dice, 3, 4, dice.choice([0, 9]), 5, 9)
            ground = some_ground(dice, len(table[0]))
            sizes.add((len(ground[0]), len(ground)))
            for many in (0, 1, 2, 40, 200):
                stands, squares = plain_ground(table, ground, floor, walker, many)
                self.assertEqual(ground_walk(table, ground, floor, walker, many),
                                 (squares, stands[-1][0], len(stands) - 1))
        self.assertEqual(len(sizes), 36)

    def test_a_blank_ground_is_no_ground(self):
        dice = dice_of(81)
        for _ in range(150):
            stand = some_stand(dice, 3, 4, dice.choice([0, 9]), 5, 9)
            ground = ((0,) * dice.randrange(1, 7),) * dice.randrange(1, 7)
            for many in (0, 1, 30, 150):
                self.assertEqual(ground_walk(stand[0], ground, *stand[1:], many), walk(*stand, many))

    def test_rows_and_columns(self):
        # Going right it reads 0, 0 and stops on 1; going down it stops on the first row of 1 below.
        ground = ((0, 0, 1), (1, 1, 1))
        for x, y, heading, many in [(0, 0, 1, 2), (2, 0, 1, 0), (3, 0, 1, 2), (-3, 0, 1, 2), (-1, 0, 3, 0),
                                    (-2, 0, 3, 2), (0, 0, 0, 1), (0, 0, 2, 1), (0, -2, 0, 1), (0, 1, 1, 0),
                                    (3 * 10 ** 30, 2 * 10 ** 40, 1, 2), (-FAR, -FAR, 1, 0)]:
            stop = (x + many * DELTAS[heading][0], y + many * DELTAS[heading][1], heading, 0)
            self.assertEqual(ground_walk(HALTING, ground, (), (x, y, heading, 0), 9), ((), stop, many))

    def test_floors_laid_upon_it(self):
        ground = ((0, 1), (1, 0))
        # (1, 0) has the ground's own colour, (2, 0) has not, (7, 7) is never come by.
        floor = ((1, 0, 1), (2, 0, 1), (7, 7, 1), (7, 8, 1))
        self.assertEqual(ground_walk(SAME, ground, floor, EAST, 0), (((2, 0, 1), (7, 7, 1)), EAST, 0))
        self.assertEqual(ground_walk(SAME, ground, floor, EAST, 9), (((2, 0, 1), (7, 7, 1)), (9, 0, 1, 0), 9))
        self.assertEqual(ground_walk(SWAP, ground, floor, EAST, 3),
                         (((0, 0, 1), (1, 0, 0), (7, 7, 1)), (3, 0, 1, 0), 3))

    def test_squares_of_the_colour_0(self):
        ground = ((1,),)
        self.assertEqual(ground_walk(SWAP, ground, (), EAST, 3), (((0, 0, 0), (1, 0, 0), (2, 0, 0)), (3, 0, 1, 0), 3))
        self.assertEqual(ground_walk(ANT, ground, (), (0, 0, 0, 0), 4)[0], ((-1, 0, 0), (-1, 1, 0), (0, 0, 0), (0, 1, 0)))

    def test_too_many_squares_counts_all_that_were_painted(self):
        for table, ground in [(SAME, BLANK), (SAME, ((1,),)), (SAME, ((0, 1, 0), (1, 1, 0))), (SWAP, ((1,),)),
                              (PAINTER, BLANK), (PAINTER, ((1,),))]:
            stand = (table, ground, (), EAST)
            self.assertEqual(ground_walk(*stand, 4000)[1:], ((4000, 0, 1, 0), 4000))
            self.raises_too_many(ground_walk, *stand, 4001)
            self.raises_too_many(shows_ground_street, *stand, 4000, 1)
            self.raises_too_many(ground_walker_at, *stand, 4000, 1, 0)
            self.raises_too_many(ground_walker_at, *stand, 2001, 2000, FAR)
            shows_ground_street(*stand, 3999, 1)
        floor = tuple((x, 5, 1) for x in range(3990))
        self.assertEqual(ground_walk(SAME, ((1,),), floor, EAST, 10), ((), (10, 0, 1, 0), 10))
        self.raises_too_many(ground_walk, SAME, ((1,),), floor, EAST, 11)
        # Squares painted again are counted once.
        self.assertEqual(ground_walk(WEAVER, BLANK, (), (0, 0, 0, 0), 100000), ((), (0, 0, 0, 0), 100000))

    def raises_too_many(self, function, *values):
        with self.assertRaises(TooMany) as caught:
            function(*values)
        self.assertEqual(caught.exception.most, 4000)


class GroundStreetTest(unittest.TestCase):
    def shows(self, answer, *values):
        self.assertIs(shows_ground_street(*values), answer, values)

    def test_against_many_rounds(self):
        dice = dice_of(82)
        answers = {True: 0, False: 0}
        while min(answers.values()) < 400:
            table, floor, walker = some_stand(dice, 3, 3, dice.choice([0, 20]), 5, dice.choice([0, 3, 9]))
            ground = some_ground(dice, len(table[0]), dice.choice([2, 3, 6]))
            stands, _ = plain_ground(table, ground, floor, walker, 900)
            if len(stands) <= 900:
                self.shows(False, table, ground, floor, walker, len(stands) - 1, 1)
                continue
            first = dice.randrange(60)
            read = [(walker[2:], colour) for walker, colour in stands]
            periods = [period for period in range(1, 50)
                       if read[first:first + period] == read[first + period:first + 2 * period]]
            for period in periods[:3]:
                answer = read[first:900 - period] == read[first + period:900]
                answer = answer and stands[first][0][:2] != stands[first + period][0][:2]
                self.shows(answer, table, ground, floor, walker, first, period)
                answers[answer] += 1
                for step in (0, first, first + period, first + period + 1, 900):
                    expected = stands[step][0] if answer else None
                    self.assertEqual(ground_walker_at(table, ground, floor, walker, first, period, step), expected)

    def test_a_blank_ground_is_no_ground(self):
        dice = dice_of(83)
        found = 0
        for _ in range(300):
            stand = some_stand(dice, 3, 4, dice.choice([0, 9]), 5, 9)
            ground = ((0,) * dice.randrange(1, 7),) * dice.randrange(1, 7)
            for first, period in [(0, 1), (30, 2), (50, 12)]:
                answer = shows_paper(*stand, ("street", first, period))
                self.shows(answer, stand[0], ground, *stand[1:], first, period)
                found += answer
        self.assertTrue(found > 20)
        self.shows(True, TRIPLE, BLANK, (), (0, 0, 0, 0), 39, 18)
        self.shows(False, TRIPLE, BLANK, (), (0, 0, 0, 0), 38, 18)

    def test_moves_that_fit_the_ground_and_that_do_not(self):
        for wide in range(1, 7):
            row = tuple(int(x == wide - 1) for x in range(wide))
            for period in range(1, 20):
                # Along the row the colours come again behind wide squares; rows of one colour are fit for all moves.
                self.shows(period % wide == 0, SAME, (row,), (), EAST, 0, period)
                self.shows(period % wide == 0, SAME, tuple((colour,) for colour in row), (), (0, 0, 2, 0), 5, period)
                self.shows(True, SAME, (row,), (), (0, 0, 2, 0), 0, period)
                self.shows(True, SAME, tuple((colour,) for colour in row), (), EAST, 0, period)
        ground = ((0, 0, 0, 0), (0, 1, 0, 0), (0, 0, 0, 0))
        for period in (1, 2, 3, 4, 8, 1996, 2000):
            self.shows(True, SAME, ground, (), EAST, 0, period)
            self.shows(period % 4 == 0, SAME, ground, (), (0, 1, 1, 0), 0, period)
            self.shows(period % 3 == 0, SAME, ground, (), (1, 0, 0, 0), 0, period)

    def test_grounds_of_slanting_stripes(self):
        # Down and right, down and right; or up and right.
        down = (((0, 1, 1), (1, 1, 1)), ((0, 3, 0), (1, 3, 0)))
        up = (((0, 3, 1), (1, 3, 1)), ((0, 1, 0), (1, 1, 0)))
        for side in range(3, 7):
            falling, rising = [tuple(tuple(int((x + sign * y) % side == 0) for x in range(side)) for y in range(side))
                               for sign in (-1, 1)]
            for period in range(1, 4 * side + 1):
                for x in (0, 1, side - 1, side):
                    along, across = period % 2 == 0, period % 2 == 0 and period % side == 0
                    self.shows(along, down, falling, (), (x, 0, 1, 0), 0, period)
                    self.shows(along, up, rising, (), (x, 0, 1, 0), 0, period)
                    self.shows(across, down, rising, (), (x, 0, 1, 0), 0, period)
                    self.shows(across, up, falling, (), (x, 0, 1, 0), 0, period)

    def test_a_ground_that_differs_only_at_a_far_row(self):
        # The walker goes aslant, right and down: it comes by the one other square behind 30 rounds at the latest.
        table = (((0, 1, 1), (1, 1, 1)), ((0, 3, 0), (1, 3, 0)))
        for odd in [(0, 0), (3, 2), (5, 4)]:
            ground = tuple(tuple(int((x, y) == odd) for x in range(6)) for y in range(5))
            for first in (0, 1, 7, 100):
                for period in (2, 10, 12, 30, 58, 60, 120):
                    self.shows(period % 60 == 0, table, ground, (), EAST, first, period)

    def test_squares_very_far_on(self):
        ground = ((0, 1), (1, 1))
        for x in (10, 101, 5000, 10 ** 20, 10 ** 20 + 1, FAR):
            own = ground[0][x % 2]
            for colour in (1, 2):
                table = (((0, 0, 0), (1, 0, 0), (2, 0, 0)),)
                floor = ((x, 0, colour),)
                self.shows(colour == own, table, ground, floor, EAST, 0, 2)
                # It was passed before the street begins, or never.
                self.shows(colour == own or x <= 101, table, ground, floor, EAST, 102, 2)
                self.shows(True, table, ground, floor, (0, 0, 3, 0), 0, 2)
                self.shows(True, table, ground, ((x, 1, colour),), EAST, 0, 2)

    def test_what_was_painted_before(self):
        # Two steps on, one back: what it has painted it comes by again.
        table = (((1, 2, 1), (0, 2, 1)), ((1, 0, 2), (0, 0, 2)), ((1, 2, 0), (0, 2, 0)))
        dice = dice_of(84)
        seen = set()
        for _ in range(60):
            ground = some_ground(dice, 2, 4)
            for period in (3, 6, 9, 12, 18, 24, 36):
                stands, _ = plain_ground(table, ground, (), (0, 0, 3, 0), 400)
                read = [(walker[2:], colour) for walker, colour in stands]
                for first in (0, 1, 2, 30):
                    answer = read[first:400 - period] == read[first + period:400]
                    self.shows(answer, table, ground, (), (0, 0, 3, 0), first, period)
                    seen.add((period, first > 0, answer))
        self.assertTrue({(3, True, True), (3, True, False), (6, True, True), (36, True, True)} <= seen, seen)

    def test_no_street(self):
        # It goes round, it stops, it is no street with this period.
        self.shows(False, WEAVER, BLANK, (), (0, 0, 0, 0), 0, 4)
        self.shows(False, WEAVER, BLANK, (), (0, 0, 0, 0), 0, 3)
        self.shows(False, HALTING, ((0, 0, 0, 1),), (), EAST, 0, 4)
        self.shows(False, HALTING, ((0, 0, 0, 1),), (), EAST, 3, 1)
        self.shows(False, HALTING, ((0, 0, 0, 1),), (), EAST, 100000, 2000)
        self.shows(True, WEAVER, ((0, 1), (1, 0)), (), (0, 0, 0, 0), 0, 2)
        self.shows(False, WEAVER, ((0, 1), (1, 0)), (), (0, 0, 0, 0), 0, 1)
        self.shows(False, WEAVER, ((0, 1), (1, 0)), ((50, -50, 1),), (0, 0, 0, 0), 0, 2)
        self.assertIsNone(ground_walker_at(WEAVER, BLANK, (), (0, 0, 0, 0), 0, 4, 0))
        self.assertIsNone(ground_walker_at(WEAVER, ((0, 1), (1, 0)), ((50, -50, 1),), (0, 0, 0, 0), 0, 2, 7))

    def test_walkers_far_on(self):
        ground = ((0, 1), (1, 0))
        for rounds in (0, 1, 10 ** 20, FAR // 2):
            for first in (0, 3, 100):
                far = ground_walker_at(WEAVER, ground, (), (0, 0, 0, 0), first, 2, 2 * rounds)
                self.assertEqual(far, (rounds, -rounds, 0, 0))
            if rounds < FAR // 2:
                far = ground_walker_at(WEAVER, ground, (), (0, 0, 0, 0), 4, 6, 2 * rounds + 1)
                self.assertEqual(far, (rounds + 1, -rounds, 1, 0))
        floor = ((2, 0, 1),)
        table = (((0, 0, 0), (0, 1, 0)),)
        for step in (0, 1, 2, 3, 10 ** 30, FAR):
            expected = (step, 0, 1, 0) if step <= 2 else (2, step - 2, 2, 0)
            self.assertEqual(ground_walker_at(table, ((0, 0, 0),), floor, EAST, 3, 1, step), expected)


class WrongArgumentsTest(unittest.TestCase):
    def refused(self, error, table, ground, floor, walker, *numbers):
        calls = [(ground_walk, numbers[:1]), (shows_ground_street, numbers[:2]), (ground_walker_at, numbers)]
        for function, more in calls:
            with self.assertRaises(error) as caught:
                function(table, ground, floor, walker, *more)
            self.assertIs(type(caught.exception), error)

    def test_values_that_are_no_grounds(self):
        for ground in [None, (), [], 0, "0", (0,), ((),), ((), ()), ([0],), [(0,)], ((0,), None), ((0,), (0, 0)),
                       ((0, 0), (0,)), ((0,) * 7,), ((0,),) * 7, ((0, 2),), ((-1,),), ((True,),), ((False, 0),),
                       ((None,),), (("0",),), "0", ((0,), ()), {0: (0,)}]:
            self.refused(BadGround, STRAIGHT, ground, None, None, None, None, None)
            self.refused(BadGround, STRAIGHT, ground, (), EAST, 0, 1, 0)
        for ground in [((0,),), ((0,) * 6,) * 6, ((0, 1),) * 6, ((1,) * 6,)]:
            self.assertEqual(ground_walk(SAME, ground, (), EAST, 0), ((), EAST, 0))
        ground_walk(TRIPLE, ((2, 1),), (), EAST, 0)

    def test_errors_in_their_order(self):
        bad_table, bad_ground, bad_floor, bad_walker = (((2, 0, 0), None),), ((2,),), ((0, 0, 2),), (0, 0, 0, 1)
        for number in (-1, True, None, 100001, "1"):
            self.refused(BadTable, bad_table, bad_ground, bad_floor, bad_walker, number, number, number)
            self.refused(BadGround, STRAIGHT, bad_ground, bad_floor, bad_walker, number, number, number)
            self.refused(BadFloor, STRAIGHT, BLANK, bad_floor, bad_walker, number, number, number)
            self.refused(BadWalker, STRAIGHT, BLANK, (), bad_walker, number, number, number)
            self.refused(BadNumber, STRAIGHT, BLANK, (), EAST, number, 1, 0)
        for index, floor in [(None, None), (1, ((0, 0, 1), (0, 0, 1))), (0, ((0, 0, 0),))]:
            with self.assertRaises(BadFloor) as caught:
                ground_walk(STRAIGHT, BLANK, floor, EAST, 0)
            self.assertEqual(caught.exception.index, index)

    def test_numbers(self):
        for period in (0, 2001, -1, True, None):
            for function, more in [(shows_ground_street, ()), (ground_walker_at, (0,))]:
                with self.assertRaises(BadNumber):
                    function(STRAIGHT, BLANK, (), EAST, 0, period, *more)
        for step in (-1, FAR + 1, True, None):
            with self.assertRaises(BadNumber):
                ground_walker_at(STRAIGHT, BLANK, (), EAST, 0, 1, step)
            # No street, or too many squares, comes behind it.
            with self.assertRaises(BadNumber):
                ground_walker_at(WEAVER, BLANK, (), EAST, 0, 4, step)
            with self.assertRaises(BadNumber):
                ground_walker_at(PAINTER, BLANK, (), EAST, 4000, 1, step)
        self.assertIs(shows_ground_street(WEAVER, BLANK, (), EAST, 100000, 2000), False)

    def test_floors_of_many_squares(self):
        floor = some_floor(dice_of(85), 2, 60, 4000)
        squares, _, done = ground_walk(WEAVER, ((1, 0), (0, 0)), floor, EAST, 50)
        self.assertEqual((done, all(x % 2 or y % 2 for x, y, _ in squares)), (50, True))


if __name__ == "__main__":
    unittest.main()
