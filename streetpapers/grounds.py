"""Walks on grounds: endless floors of a few rows that come again and again."""

from streetpapers.checks import FAR, check_number, is_whole
from streetpapers.errors import BadGround, TooMany
from streetpapers.floors import MOST_SQUARES, check_floor, ground_colour
from streetpapers.papers import LONGEST_PERIOD, Course
from streetpapers.tables import check_table
from streetpapers.walks import MOST_STEPS, Stroll, check_walker

LONGEST_SIDE = 6


def ground_walk(table, ground, floor, walker, many):
    """Return the squares unlike the ground, the walker, and how many steps were done, behind many or up to a stop."""
    _check_stand(table, ground, floor, walker)
    check_number(many, 0, MOST_STEPS)
    stroll = GroundStroll(table, floor, walker, ground)
    done = len(stroll.go(many))
    painted = stroll.painted
    unlike = [place for place in sorted(painted) if painted[place] != ground_colour(ground, place)]
    return (tuple([(x, y, painted[(x, y)]) for x, y in unlike]), stroll.walker, done)


def shows_ground_street(table, ground, floor, walker, first, period):
    """Tell whether the walk is a street from first on, with rounds of so many steps, for all time."""
    _check_street(table, ground, floor, walker, first, period)
    return _street(table, ground, floor, walker, first, period).holds()


def ground_walker_at(table, ground, floor, walker, first, period, step):
    """Return the walker of a street behind so many steps, None if there is no such street."""
    _check_street(table, ground, floor, walker, first, period)
    check_number(step, 0, FAR)
    course = _street(table, ground, floor, walker, first, period)
    return course.walker_behind(step) if course.holds() else None


class GroundStroll(Stroll):
    """A walk under way on a ground. Each square that was painted is kept, also one that was painted blank."""

    def colour_of(self, place):
        """Return the colour that a place has now."""
        if place in self.painted:
            return self.painted[place]
        return ground_colour(self.ground, place)

    def paint(self, place, colour):
        """Give a place a colour, or raise TooMany."""
        if place not in self.painted and len(self.painted) == MOST_SQUARES:
            raise TooMany(MOST_SQUARES)
        self.painted[place] = colour


def _street(table, ground, floor, walker, first, period):
    return Course(GroundStroll(table, floor, walker, ground), ("street", first, period))


def _check_street(table, ground, floor, walker, first, period):
    _check_stand(table, ground, floor, walker)
    check_number(first, 0, MOST_STEPS)
    check_number(period, 1, LONGEST_PERIOD)


def _check_stand(table, ground, floor, walker):
    check_table(table)
    if not _is_ground(ground, len(table[0])):
        raise BadGround("1 to 6 rows are wanted, with 1 to 6 colours each, as many in one as in another")
    check_floor(floor, len(table[0]))
    check_walker(walker, len(table))


def _is_ground(value, colours):
    if not isinstance(value, tuple) or not 1 <= len(value) <= LONGEST_SIDE:
        return False
    for row in value:
        if not isinstance(row, tuple) or len(row) != len(value[0]):
            return False
        if not all([is_whole(colour, 0, colours - 1) for colour in row]):
            return False
    return 1 <= len(value[0]) <= LONGEST_SIDE
