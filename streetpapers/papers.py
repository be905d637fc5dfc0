"""Papers: how a walk goes on for ever, judged for all time, and what they tell of any step."""

from math import lcm

from streetpapers.checks import FAR, check_number, check_place, is_whole
from streetpapers.errors import BadPaper, TooMany
from streetpapers.floors import MOST_SQUARES, ground_colour
from streetpapers.walks import MOST_STEPS, Stroll, check_stand

LONGEST_PERIOD = 2000


def shows_paper(table, floor, walker, value):
    """Tell whether a value is a paper that is right."""
    check_stand(table, floor, walker)
    return is_paper(value) and Course(Stroll(table, floor, walker), value).holds()


def walker_at(table, floor, walker, paper, step):
    """Return the walker behind so many steps, or where it has stopped."""
    return right_course(table, floor, walker, paper, step, (0, 0)).walker_behind(step)


def painted_at(table, floor, walker, paper, step):
    """Return how many squares are painted behind so many steps."""
    return right_course(table, floor, walker, paper, step, (0, 0)).painted_behind(step)


def colour_at(table, floor, walker, paper, step, place):
    """Return the colour of a place behind so many steps."""
    return right_course(table, floor, walker, paper, step, place).colour_behind(step, place)


def move_of(table, floor, walker, paper):
    """Return the move of a street, (0, 0) for another paper."""
    return right_course(table, floor, walker, paper, 0, (0, 0)).move


def is_paper(value):
    """Tell whether a value has the form of a paper, whatever the walk."""
    if not isinstance(value, tuple) or len(value) not in (2, 3) or not is_whole(value[1], 0, MOST_STEPS):
        return False
    if len(value) == 2:
        return value[0] == "stops"
    return value[0] in ("round", "street") and is_whole(value[2], 1, LONGEST_PERIOD)


def right_course(table, floor, walker, paper, step, place):
    """Return the course that a right paper tells, once all arguments are found to be right.

    A function that takes no step or no place passes any right one.
    """
    check_stand(table, floor, walker)
    course = judged_course(table, floor, walker, paper)
    check_number(step, 0, FAR)
    check_place(place)
    if course is None:
        raise TooMany(MOST_SQUARES)
    return course


def judged_course(table, floor, walker, paper):
    """Return the course that a paper tells, or raise BadPaper if it is not right.

    It is None where the walk would paint too many squares: that is to be raised behind all other errors.
    """
    if not is_paper(paper):
        raise BadPaper("the value is no paper")
    try:
        course = Course(Stroll(table, floor, walker), paper)
    except TooMany:
        return None
    if not course.holds():
        raise BadPaper("the paper is not right")
    return course


class Course:
    """A walk as a paper tells it: the lead up to where the paper begins, and one round from there on.

    The round of a paper that tells a stop has no steps.
    """

    def __init__(self, stroll, paper):
        self.kind = paper[0]
        self.first = paper[1]
        self.period = paper[2] if len(paper) == 3 else 0
        self.stroll = stroll
        self.at_first = _copied(stroll.painted)
        lead = stroll.go(self.first)
        self.start = stroll.walker
        self.ahead = _copied(stroll.painted)
        self.loop = stroll.go(self.period)
        self.end = stroll.walker
        self.steps = lead + self.loop
        self.move = (self.end[0] - self.start[0], self.end[1] - self.start[1])

    def holds(self):
        """Tell whether the paper is right."""
        if len(self.steps) < self.first + self.period:
            return False
        if self.kind == "stops":
            return self.stroll.has_stopped()
        if self.kind == "round":
            return self.end == self.start and self.stroll.painted == self.ahead
        if self.move == (0, 0) or self.end[2:] != self.start[2:]:
            return False
        return _repeats_for_ever(self.ahead, self.loop, self.move, self.stroll.ground)

    def lasts(self, step):
        """Tell whether there are so many steps."""
        return self.kind != "stops" or step <= self.first

    def near(self, step):
        """Return the step near by that is as this one, and how many rounds lie between them."""
        if step < self.first or self.period == 0:
            return (min(step, self.first), 0)
        rounds, more = divmod(step - self.first, self.period)
        return (self.first + more, rounds)

    def walker_behind(self, step):
        """Return the walker behind so many steps."""
        near, rounds = self.near(step)
        x, y, heading, state = self.steps[near][0] if near < len(self.steps) else self.end
        return (x + rounds * self.move[0], y + rounds * self.move[1], heading, state)

    def painted_behind(self, step):
        """Return how many squares are painted behind so many steps.

        Each round reads and paints the same colours, so that each brings as many painted squares more.
        """
        near, rounds = self.near(step)
        return len(self.at_first) + _growth(self.steps[:near]) + rounds * _growth(self.loop)

    def colour_behind(self, step, place):
        """Return the colour of a place behind so many steps."""
        if self.kind == "street" and step >= self.first:
            return self._street_colour(step, place)
        return self.painted_near(self.near(step)[0]).get(place, 0)

    def painted_near(self, near):
        """Return the colours of the painted squares, by their places, behind so many of the steps near by."""
        colours = _copied(self.at_first)
        for walker, _, paint in self.steps[:near]:
            colours[walker[:2]] = paint
        return {place: colours[place] for place in colours if colours[place] > 0}

    def _street_colour(self, step, place):
        near, rounds = self.near(step)
        lane, along = lane_of(place, self.move)
        visits = []
        for at, (walker, _, paint) in enumerate(self.loop):
            own_lane, own_along = lane_of(walker[:2], self.move)
            # In this round of the street the walker's step number at of a round is on the place.
            in_round = along - own_along
            if own_lane == lane and (0, 0) <= (in_round, at) < (rounds, near - self.first):
                visits.append((in_round, at, paint))
        return max(visits)[2] if visits else self.ahead.get(place, 0)


def lane_of(place, move):
    """Return the lane of a place and how far along it lies: the places of a lane are whole moves apart."""
    along = place[0] // move[0] if move[0] != 0 else place[1] // move[1]
    return ((place[0] - along * move[0], place[1] - along * move[1]), along)


def _copied(painted):
    return {place: painted[place] for place in painted}


def _growth(steps):
    """Return how many more squares are painted behind some steps than ahead of them."""
    painted = len([paint for _, _, paint in steps if paint > 0])
    return painted - len([colour for _, colour, _ in steps if colour > 0])


def _repeats_for_ever(painted, loop, move, ground):
    """Tell whether a walk that did one round, from these painted squares on, does such rounds for ever."""
    lanes = _lane_visits(loop, move)
    colours = {lane: {} for lane in lanes}
    for place in painted:
        lane, along = lane_of(place, move)
        if lane in colours:
            colours[lane][along] = painted[place]
    return all([_lane_repeats(lanes[lane], colours[lane], _lane_ground(lane, move, ground)) for lane in lanes])


def _lane_visits(loop, move):
    """Return, lane by lane, the colours that a round reads first and paints last, by how far along."""
    lanes = {}
    for walker, colour, paint in loop:
        lane, along = lane_of(walker[:2], move)
        visits = lanes.setdefault(lane, {})
        read = visits[along][0] if along in visits else colour
        visits[along] = (read, paint)
    return lanes


def _lane_ground(lane, move, ground):
    """Return the colours of the ground along a lane, as many as there are until they come again."""
    many = lcm(len(ground), len(ground[0]))
    return [ground_colour(ground, (lane[0] + along * move[0], lane[1] + along * move[1])) for along in range(many)]


def _lane_repeats(visits, colours, own):
    """Tell whether each later round comes upon the colours on this lane that the first one read.

    What a round reads first at a place is, moved on by one round after the other, at first what the squares
    ahead have been all along (their own colour, unless they were painted), and from the next place on that the
    round visits too what is painted last there.
    """
    places = sorted(visits)
    for here, there in zip(places, places[1:]):
        read = visits[here][0]
        if visits[there][1] != read:
            return False
        ahead = [colours.get(between, own[between % len(own)]) for between in range(here + 1, there)]
        if any([colour != read for colour in ahead]):
            return False
    last = places[-1]
    read = visits[last][0]
    beyond = [colours[along] for along in colours if along > last]
    return all([colour == read for colour in own + beyond])
