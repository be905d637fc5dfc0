"""Point 13: teams, together and each alone."""

import unittest

from plain import ANT, DELTAS, FAR, HALTING, PAINTER, STRAIGHT, TRIPLE, dice_of, some_floor, some_table
from streetpapers.crossings import ever_cross
from streetpapers.errors import BadNumber, BadPaper, BadPlace, BadWalker, TooMany
from streetpapers.finders import find_paper
from streetpapers.teams import never_cross, team_at, team_colour_at, team_painted_at, team_walk

CIRCLE = (((1, 1, 0), (0, 1, 0)),)
STREET = ("street", 0, 1)
# Right, down, right, down: a street that goes aslant, painting or not.
STAIRS = (((0, 1, 1), (0, 1, 1)), ((0, 3, 0), (0, 3, 0)))


def plain_team(table, floor, walkers, beats):
    """The list of (floor, walkers) behind 0, 1 .. beats."""
    squares = {(x, y): colour for x, y, colour in floor}
    walkers = list(walkers)
    stands = []
    for _ in range(beats + 1):
        stands.append((tuple(sorted((*place, squares[place]) for place in squares if squares[place])), tuple(walkers)))
        for at, (x, y, heading, state) in enumerate(walkers):
            entry = table[state][squares.get((x, y), 0)]
            if entry is not None:
                squares[x, y] = entry[0]
                heading = (heading + entry[1]) % 4
                walkers[at] = (x + DELTAS[heading][0], y + DELTAS[heading][1], heading, entry[2])
    return stands


def plain_places(table, floor, walker, many):
    """The places on which a walker stands behind 0, 1 .. steps, up to many, or the stop."""
    squares = {(x, y): colour for x, y, colour in floor}
    x, y, heading, state = walker
    places = {(x, y)}
    for _ in range(many):
        entry = table[state][squares.get((x, y), 0)]
        if entry is None:
            break
        squares[x, y] = entry[0]
        heading = (heading + entry[1]) % 4
        state = entry[2]
        x += DELTAS[heading][0]
        y += DELTAS[heading][1]
        places.add((x, y))
    return places


def some_parallel_ways(dice):
    """Two streets of parallel moves, on one line or on two beside one another."""
    dx, dy = dice.choice([(1, 0), (0, 1), (1, 1), (2, 1), (-1, 2), (3, -2)])

    def some_places(many):
        return [(k * dx + dice.randrange(2), k * dy) for k in [dice.randrange(-12, 13) for _ in range(many)]]
    ways = []
    for _ in range(2):
        many = dice.choice([-5, -4, -3, -2, -1, 1, 2, 3, 4, 5, 6])
        ways.append(Way("street", some_places(dice.randrange(2)), some_places(dice.randrange(1, 5)),
                        (many * dx, many * dy)))
    return ways


class TeamWalkTest(unittest.TestCase):
    def test_against_plain_teams(self):
        dice = dice_of(30)
        for _ in range(120):
            table = some_table(dice, 2, 3, dice.choice([0, 5]))
            floor = some_floor(dice, 3, 3, 8)
            walkers = tuple((dice.randrange(-2, 3), dice.randrange(-2, 3), dice.randrange(4), dice.randrange(2))
                            for _ in range(dice.randrange(1, 5)))
            stands = plain_team(table, floor, walkers, 30)
            for beats in (0, 1, 2, 30):
                self.assertEqual(team_walk(table, floor, walkers, beats), stands[beats])

    def test_walkers_on_one_square(self):
        # The second one reads what the first one has painted.
        walkers = ((0, 0, 0, 0), (0, 0, 0, 0))
        self.assertEqual(team_walk(ANT, (), walkers, 1), ((), ((1, 0, 1, 0), (-1, 0, 3, 0))))
        walkers = ((0, 0, 0, 0),) * 3
        self.assertEqual(team_walk(ANT, (), walkers, 1), (((0, 0, 1),), ((1, 0, 1, 0), (-1, 0, 3, 0), (1, 0, 1, 0))))

    def test_one_that_has_stopped_goes_on_when_it_can(self):
        # The second one has stopped on a painted square, until the first one makes it blank.
        table = (((0, 0, 0), None), ((0, 0, 1), (0, 0, 1)))
        floor = ((3, 0, 1),)
        walkers = ((0, 0, 1, 1), (3, 0, 2, 0))
        for beats, expected in [(3, (3, 0, 2, 0)), (4, (3, 1, 2, 0)), (5, (3, 2, 2, 0))]:
            self.assertEqual(team_walk(table, floor, walkers, beats)[1], ((beats, 0, 1, 1), expected))
        # As the first one's turn comes ahead: it goes on in the same beat; if it comes behind, a beat later.
        self.assertEqual(team_walk(table, floor, walkers[::-1], 4)[1], ((3, 0, 2, 0), (4, 0, 1, 1)))
        self.assertEqual(team_walk(table, floor, walkers[::-1], 5)[1], ((3, 1, 2, 0), (5, 0, 1, 1)))

    def test_all_have_stopped(self):
        floor = ((0, 0, 1), (5, 0, 1))
        walkers = ((0, 0, 0, 0), (5, 0, 0, 0))
        self.assertEqual(team_walk(HALTING, floor, walkers, 100000), (floor, walkers))

    def test_how_many_beats(self):
        self.assertEqual(team_walk(STRAIGHT, (), ((0, 0, 1, 0),), 100000), ((), ((100000, 0, 1, 0),)))
        for beats in (-1, 100001, True, None, "1", FAR):
            with self.assertRaises(BadNumber):
                team_walk(STRAIGHT, (), ((0, 0, 1, 0),), beats)

    def test_no_teams(self):
        one = (0, 0, 1, 0)
        for walkers in [(), (one,) * 5, [one], one, None, 1, ((0, 0, 4, 0),), (one, (0, 0, 0, 1)), (one, None),
                        (one, [0, 0, 1, 0]), ((FAR + 1, 0, 0, 0), one), (one, one, one, (0, True, 0, 0)), {one: one}]:
            with self.assertRaises(BadWalker):
                team_walk(STRAIGHT, (), walkers, 0)
            with self.assertRaises(BadWalker):
                never_cross(STRAIGHT, (), walkers, (STREET,))
            for function, more in [(team_at, ()), (team_painted_at, ()), (team_colour_at, ((0, 0),))]:
                with self.assertRaises(BadWalker):
                    function(STRAIGHT, (), walkers, None, 0, *more)

    def test_too_many(self):
        walkers = tuple((0, y, 1, 0) for y in range(4))
        self.assertEqual(len(team_walk(PAINTER, (), walkers, 1000)[0]), 4000)
        self.assertEqual(len(team_walk(PAINTER, (), walkers[:3], 1333)[0]), 3999)
        for team, beats in [(walkers, 1001), (walkers[:3], 1334), (walkers[:1], 4001), (walkers, 100000)]:
            with self.assertRaises(TooMany) as caught:
                team_walk(PAINTER, (), team, beats)
            self.assertEqual(caught.exception.most, 4000)


class Way:
    """The way of a walker that is made up: on its first places once, on the others again and again, moved on."""

    def __init__(self, kind, once, again, move):
        self.kind = kind
        self.first = len(once)
        self.steps = [((*place, 0, 0), 0, 0) for place in once + again]
        self.end = (*(once + again)[-1], 0, 0)
        self.move = move
        self.places = {(x + k * move[0], y + k * move[1]) for x, y in again for k in range(250)} | set(once)


def some_way(dice, reach, longest):
    def some_places(many):
        return [(dice.randrange(-reach, reach + 1), dice.randrange(-reach, reach + 1)) for _ in range(many)]
    move = (dice.randrange(-longest, longest + 1), dice.randrange(-longest, longest + 1))
    move = dice.choice([move, move, (move[0], 0), (0, move[1]), (move[0], move[0]), (2 * move[1], move[1])])
    if move == (0, 0):
        return Way(dice.choice(["stops", "round"]), some_places(dice.randrange(1, 4)), [], move)
    return Way("street", some_places(dice.randrange(3)), some_places(dice.randrange(1, 4)), move)


class CrossingTest(unittest.TestCase):
    def crosses(self, answer, table, floor, walkers, papers):
        self.assertIs(never_cross(table, floor, walkers, papers), not answer)
        self.assertIs(never_cross(table, floor, walkers[::-1], papers[::-1]), not answer)

    def test_ways_that_are_made_up(self):
        dice = dice_of(31)
        crossed = 0
        for at in range(3000):
            reach, longest = dice.choice([(3, 3), (8, 3), (12, 5), (5, 6), (20, 2)])
            one, other = some_way(dice, reach, longest), some_way(dice, reach, longest)
            if at % 2:
                one, other = some_parallel_ways(dice)
            answer = bool(one.places & other.places)
            self.assertEqual(ever_cross(one, other), answer, (vars(one), vars(other)))
            self.assertEqual(ever_cross(other, one), answer)
            crossed += answer
        self.assertTrue(300 < crossed < 2700)

    def test_streets_that_cross_near_by_and_far_on(self):
        for far in (0, 1, 2, 100, 10 ** 9, 10 ** 30, FAR):
            # Eastwards from (0, 0); and upwards, downwards over it from far below, above, or leaving it.
            for y, heading, answer in [(far, 0, True), (-far, 2, True), (far + 1, 2, False), (-far - 1, 0, False)]:
                if abs(y) <= FAR:
                    walkers = ((0, 0, 1, 0), (far, y, heading, 0))
                    self.crosses(answer, STRAIGHT, (), walkers, (STREET, STREET))
                    walkers = ((0, 0, 1, 0), (-far - 1, y, heading, 0))
                    if far < FAR:
                        self.crosses(False, STRAIGHT, (), walkers, (STREET, STREET))

    def test_streets_that_come_towards_one_another_or_leave(self):
        for far in (1, 2, 5, 10 ** 40, FAR):
            for papers in [(STREET, STREET), (("street", 0, 7), ("street", 3, 5))]:
                self.crosses(True, STRAIGHT, (), ((0, 0, 1, 0), (far, 0, 3, 0)), papers)
                self.crosses(True, STRAIGHT, (), ((0, -far, 2, 0), (0, 0, 0, 0)), papers)
                self.crosses(False, STRAIGHT, (), ((0, 0, 3, 0), (far, 0, 1, 0)), papers)
                self.crosses(False, STRAIGHT, (), ((0, 0, 1, 0), (far, 1, 3, 0)), papers)

    def test_streets_that_run_the_same_way(self):
        for far in (1, 2, 5, 10 ** 40, FAR):
            for papers in [(STREET, STREET), (("street", 0, 7), ("street", 3, 5))]:
                # The one comes later on all squares of the other.
                self.crosses(True, STRAIGHT, (), ((0, 0, 1, 0), (far, 0, 1, 0)), papers)
                self.crosses(True, STRAIGHT, (), ((0, 0, 0, 0), (0, far, 0, 0)), papers)
                self.crosses(False, STRAIGHT, (), ((0, 0, 1, 0), (far, 1, 1, 0)), papers)
                self.crosses(False, STRAIGHT, (), ((0, 0, 1, 0), (far, -1, 1, 0)), papers)

    def test_slanting_streets(self):
        papers = (("street", 0, 2), ("street", 0, 2))
        for far in (0, 1, 10, 10 ** 20):
            # A walker that heads right goes down first, then right, and so on: on (k, k) and (k, k + 1).
            for above, answer in [(-3, False), (-2, False), (-1, True), (0, True), (1, True), (2, False), (3, False)]:
                self.crosses(answer, STAIRS, (), ((0, 0, 1, 0), (far, far + above, 1, 0)), papers)
            # Towards one another, or one leaving the other.
            self.crosses(True, STAIRS, (), ((0, 0, 1, 0), (far, far, 3, 0)), papers)
            self.crosses(True, STAIRS, (), ((0, 0, 1, 0), (far, far + 2, 3, 0)), papers)
            self.crosses(False, STAIRS, (), ((0, 0, 1, 0), (far, far + 3, 3, 0)), papers)
            self.crosses(False, STAIRS, (), ((0, 0, 1, 0), (-1 - far, -1 - far, 3, 0)), papers)
            # Across: one that heads up goes right first, then up; one that heads down goes left first, then down.
            self.crosses(True, STAIRS, (), ((0, 0, 1, 0), (0, 2 * far + 5, 0, 0)), papers)
            self.crosses(True, STAIRS, (), ((0, 0, 1, 0), (2 * far + 5, 0, 2, 0)), papers)
            self.crosses(False, STAIRS, (), ((0, 0, 1, 0), (0, 2 * far + 5, 2, 0)), papers)
            self.crosses(False, STAIRS, (), ((0, 0, 1, 0), (-5, -far, 0, 0)), papers)

    def test_rounds_and_stops_beside_streets(self):
        walkers, papers = ((0, 0, 0, 0), (5, 5, 0, 0)), (("round", 0, 8), ("round", 0, 8))
        self.crosses(False, CIRCLE, (), walkers, papers)
        self.crosses(True, CIRCLE, (), ((0, 0, 0, 0), (1, 1, 0, 0)), papers)
        self.crosses(False, CIRCLE, (), ((0, 0, 0, 0), (2, 0, 0, 0)), papers)
        for far in (1, 2, 1000, 99999):
            # One stops on the square (far, 0); the other goes past it, or on to its way, or stops on another one.
            floor = ((far, 0, 1), (far, 5, 1))
            halts = (0, 0, 1, 0)
            self.crosses(True, HALTING, floor, (halts, (far, 3, 0, 0)), (("stops", far), ("stops", 3)))
            self.crosses(True, HALTING, floor, (halts, (far - 1, 10 ** 50, 0, 0)), (("stops", far), STREET))
            self.crosses(False, HALTING, floor, (halts, (far + 1, 10 ** 50, 0, 0)), (("stops", far), STREET))
            self.crosses(False, HALTING, floor, (halts, (-1, 10 ** 50, 0, 0)), (("stops", far), STREET))
            self.crosses(False, HALTING, floor, (halts, (0, 5, 1, 0)), (("stops", far), ("stops", far)))
        # A round, past which a street goes or on which it comes: the street turns the painted squares at which it comes.
        table = (((1, 1, 0), (0, 1, 0)), ((0, 0, 1), (1, 0, 1)))
        for x, answer in [(-1, False), (0, True), (1, True), (2, False)]:
            walkers = ((0, 0, 0, 0), (x, 10 ** 50, 0, 1))
            self.crosses(answer, table, (), walkers, (("round", 0, 8), STREET))
            self.crosses(answer, table, (), walkers, (("round", 5, 16), ("street", 9, 4)))

    def test_walkers_that_begin_on_one_square(self):
        self.crosses(True, STRAIGHT, (), ((0, 0, 1, 0), (0, 0, 3, 0)), (STREET, STREET))
        self.crosses(True, HALTING, ((0, 0, 1),), ((0, 0, 1, 0), (0, 0, 1, 0)), (("stops", 0), ("stops", 0)))
        self.crosses(True, CIRCLE, (), ((0, 0, 0, 0), (0, 0, 2, 0)), (("round", 0, 8), ("round", 0, 8)))

    def test_what_is_stood_on_ahead_of_a_street(self):
        # It turns at the painted square and goes down: up to there it is no street.
        table = (((0, 0, 0), (0, 1, 0)),)
        floor = ((4, 0, 1),)
        for x, answer in [(-1, False), (0, True), (3, True), (4, True), (5, False)]:
            walkers = ((0, 0, 1, 0), (x, -7, 2, 0) if x != 4 else (x, 9, 2, 0))
            self.crosses(answer, table, floor, walkers, (("street", 5, 1), STREET))

    def test_one_walker_and_four(self):
        self.assertIs(never_cross(STRAIGHT, (), ((0, 0, 1, 0),), (STREET,)), True)
        walkers = tuple((0, y, 1, 0) for y in range(4))
        self.assertIs(never_cross(STRAIGHT, (), walkers, (STREET,) * 4), True)
        for one in range(4):
            for other in range(one):
                team = list(walkers)
                team[one] = (9, other, 1, 0)
                self.assertIs(never_cross(STRAIGHT, (), tuple(team), (STREET,) * 4), False)

    def test_against_plain_walks(self):
        dice = dice_of(32)
        answers = {}
        for _ in range(1200):
            table = some_table(dice, 2, 3, dice.choice([0, 4]))
            floor = some_floor(dice, 3, 4, 4)
            walkers = tuple((dice.randrange(-6, 7), dice.randrange(-6, 7), dice.randrange(4), dice.randrange(2))
                            for _ in range(2))
            papers = tuple(find_paper(table, floor, walker, 80, 20) for walker in walkers)
            if None not in papers:
                one, other = [plain_places(table, floor, walker, 600) for walker in walkers]
                answer = bool(one & other)
                self.crosses(answer, table, floor, walkers, papers)
                kinds = (*sorted(paper[0] for paper in papers), answer)
                answers[kinds] = answers.get(kinds, 0) + 1
        self.assertTrue(len(answers) > 9, answers)


class TogetherTest(unittest.TestCase):
    def test_near_by_against_team_walk(self):
        dice = dice_of(33)
        teams = {}
        for _ in range(600):
            table = some_table(dice, 2, 3, dice.choice([0, 9]))
            floor = some_floor(dice, 3, 9, 9)
            walkers = tuple((dice.randrange(-9, 10), dice.randrange(-9, 10), dice.randrange(4), dice.randrange(2))
                            for _ in range(dice.randrange(1, 5)))
            papers = tuple(find_paper(table, floor, walker, 80, 20) for walker in walkers)
            if None not in papers and never_cross(table, floor, walkers, papers):
                teams[len(walkers)] = teams.get(len(walkers), 0) + 1
                for beat in (0, 1, 2, 9, 90):
                    squares, there = team_walk(table, floor, walkers, beat)
                    self.assertEqual(team_at(table, floor, walkers, papers, beat), there)
                    self.assertEqual(team_painted_at(table, floor, walkers, papers, beat), len(squares))
                    colours = {square[:2]: square[2] for square in squares}
                    places = [(x + dice.randrange(-1, 2), y + dice.randrange(-1, 2)) for x, y, *_ in (*there, *floor)]
                    for place in places:
                        colour = team_colour_at(table, floor, walkers, papers, beat, place)
                        self.assertEqual(colour, colours.get(place, 0))
        self.assertTrue(min(teams[many] for many in (1, 2, 3, 4)) > 2, teams)

    def test_far_on(self):
        floor = ((-3, 0, 1), (0, 5, 1), (7, 7, 1))
        walkers = ((0, 0, 1, 0), (0, 2, 3, 0), (0, 5, 1, 0), (0, -2, 0, 0))
        papers = (STREET, ("street", 4, 3), ("street", 1, 1), STREET)
        for beat in (0, 1, 10 ** 9, 10 ** 30 + 1, FAR):
            self.assertEqual(team_at(PAINTER, floor, walkers, papers, beat),
                             ((beat, 0, 1, 0), (-beat, 2, 3, 0), (beat, 5, 1, 0), (0, -2 - beat, 0, 0)))
            # The third one begins on a square that is painted.
            self.assertEqual(team_painted_at(PAINTER, floor, walkers, papers, beat), 3 + 4 * beat - int(beat > 0))
            for place, colour in [((beat - 1, 0), beat > 0), ((beat, 0), False), ((1 - beat, 2), beat > 0),
                                  ((-beat, 2), False), ((-3, 0), True), ((7, 7), True), ((8, 7), False),
                                  ((0, 5), True), ((beat - 1, 5), beat > 0), ((0, -2), beat > 0)]:
                self.assertEqual(team_colour_at(PAINTER, floor, walkers, papers, beat, place), int(colour))

    def test_far_on_with_unlike_papers(self):
        table = (((1, 1, 0), (0, 1, 0)), ((1, 0, 1), None))
        floor, walkers = ((90, 0, 1),), ((0, 0, 0, 0), (80, 0, 1, 1), (0, 9, 1, 1))
        papers = (("round", 3, 8), ("stops", 10), ("street", 5, 5))
        for beat in (10, 11, 80, 10 ** 20, FAR):
            behind = team_walk(table, floor, walkers[:2], 16 + beat % 8)
            self.assertEqual(team_at(table, floor, walkers, papers, beat), (*behind[1], (beat, 9, 1, 1)))
            self.assertEqual(team_painted_at(table, floor, walkers, papers, beat), len(behind[0]) + beat)
            for place in [(0, 0), (1, 0), (0, 1), (1, 1), (80, 0), (89, 0), (90, 0), (91, 0)]:
                colour = int((*place, 1) in behind[0])
                self.assertEqual(team_colour_at(table, floor, walkers, papers, beat, place), colour)

    def test_squares_made_blank(self):
        blank = (((0, 0, 0), (0, 0, 0)),)
        floor = ((3, 0, 1), (3, 1, 1), (3, 2, 1))
        walkers, papers = ((0, 0, 1, 0), (4, 1, 3, 0)), (("street", 4, 1), ("street", 2, 1))
        for beat, painted, colours in [(1, 3, [1, 1, 1]), (2, 2, [1, 0, 1]), (4, 1, [0, 0, 1]), (FAR, 1, [0, 0, 1])]:
            self.assertEqual(team_painted_at(blank, floor, walkers, papers, beat), painted)
            found = [team_colour_at(blank, floor, walkers, papers, beat, (3, y)) for y in range(3)]
            self.assertEqual(found, colours)


class TeamPapersTest(unittest.TestCase):
    def refused(self, error, table, floor, walkers, papers, beat=0, place=(0, 0)):
        for function, more in [(team_at, ()), (team_painted_at, ()), (team_colour_at, (place,))]:
            with self.assertRaises(error):
                function(table, floor, walkers, papers, beat, *more)

    def test_bad_papers(self):
        walkers = ((0, 0, 0, 0), (50, 50, 0, 0))
        right = ("street", 39, 18)
        for papers in [(), (right,), (right, right, right), [right, right], None, right, (right, None), (None, right),
                       (right, ("street", 38, 18)), (("street", 38, 18), right), (("round", 39, 18), right),
                       (right, ("stops", 39)), (right, ("street", 39, True)), "stops", (right, ("street", 100001, 18))]:
            with self.assertRaises(BadPaper):
                never_cross(TRIPLE, (), walkers, papers)
            self.refused(BadPaper, TRIPLE, (), walkers, papers, -1, None)

    def test_papers_are_right_for_each_alone(self):
        # Together the second one would be stopped by what the first one paints.
        table = (((1, 0, 0), None),)
        walkers = ((0, 0, 1, 0), (5, 5, 0, 0))
        self.assertIs(never_cross(table, (), walkers, (STREET, STREET)), False)
        with self.assertRaises(BadPaper):
            never_cross(table, (), walkers, (STREET, ("stops", 5)))

    def test_walkers_that_cross(self):
        walkers = ((0, 0, 1, 0), (5, 5, 0, 0))
        for beat, place in [(0, (0, 0)), (-1, (0, 0)), (FAR + 1, None), (None, None), (0, None)]:
            self.refused(BadPaper, STRAIGHT, (), walkers, (STREET, STREET), beat, place)
        apart = ((0, 0, 1, 0), (-1, 5, 0, 0))
        for beat in (-1, FAR + 1, True, None):
            self.refused(BadNumber, STRAIGHT, (), apart, (STREET, STREET), beat, None)
        for place in (None, (0, FAR + 1), (0, True), [0, 0], (0, 0, 0)):
            with self.assertRaises(BadPlace):
                team_colour_at(STRAIGHT, (), apart, (STREET, STREET), FAR, place)

    def test_too_many(self):
        walkers = ((0, 0, 1, 0), (0, 1, 1, 0), (0, 2, 1, 0))
        late = ("street", 4000, 1)
        with self.assertRaises(TooMany) as caught:
            never_cross(PAINTER, (), walkers, (STREET, late, STREET))
        self.assertEqual(caught.exception.most, 4000)
        self.refused(TooMany, PAINTER, (), walkers, (STREET, late, STREET), FAR)
        # It comes behind all errors of the arguments.
        self.refused(BadNumber, PAINTER, (), walkers, (STREET, late, STREET), FAR + 1)
        with self.assertRaises(BadPlace):
            team_colour_at(PAINTER, (), walkers, (STREET, late, STREET), FAR, None)
        for papers in [(late, STREET, ("stops", 3)), (late, STREET, None), (late, STREET)]:
            with self.assertRaises(BadPaper):
                never_cross(PAINTER, (), walkers, papers)
            self.refused(BadPaper, PAINTER, (), walkers, papers, FAR + 1)
        self.refused(BadPaper, PAINTER, (), ((0, 0, 1, 0), (9, 9, 1, 0), (5, 0, 1, 0)), (STREET, late, STREET))


if __name__ == "__main__":
    unittest.main()
