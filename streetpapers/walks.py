"""Walks, step by step."""

from streetpapers.checks import check_number, is_place, is_whole
from streetpapers.errors import BadWalker, Stopped
from streetpapers.floors import BLANK, check_floor, floor_of, paint_square, painted_places
from streetpapers.tables import check_table

MOST_STEPS = 100000
AHEAD = ((0, -1), (1, 0), (0, 1), (-1, 0))


def step(table, floor, walker):
    """Return the floor and the walker behind a step."""
    check_stand(table, floor, walker)
    stroll = Stroll(table, floor, walker)
    if stroll.has_stopped():
        raise Stopped("the walk has stopped")
    stroll.go(1)
    return (floor_of(stroll.painted), stroll.walker)


def walk(table, floor, walker, many):
    """Return the floor and the walker behind many steps, or where it stops, and how many steps were done."""
    check_stand(table, floor, walker)
    check_number(many, 0, MOST_STEPS)
    stroll = Stroll(table, floor, walker)
    done = len(stroll.go(many))
    return (floor_of(stroll.painted), stroll.walker, done)


def check_stand(table, floor, walker):
    """Raise the first error of a table, a floor and a walker that are to make a walk."""
    check_table(table)
    check_floor(floor, len(table[0]))
    check_walker(walker, len(table))


def check_walker(value, states):
    """Raise BadWalker for no walker of a table of so many states."""
    if not is_walker(value, states):
        raise BadWalker("a walker is (x, y, heading, state)")


def is_walker(value, states):
    """Tell whether a value is a walker of a table of so many states."""
    if not isinstance(value, tuple) or len(value) != 4:
        return False
    return is_place(value[:2]) and is_whole(value[2], 0, 3) and is_whole(value[3], 0, states - 1)


class Stroll:
    """A walk under way: the colours of the painted squares by their places, the walker, and the ground below."""

    def __init__(self, table, floor, walker, ground=BLANK):
        self.table = table
        self.ground = ground
        self.painted = painted_places(floor)
        self.walker = walker

    def colour_of(self, place):
        """Return the colour that a place has now."""
        return self.painted.get(place, 0)

    def paint(self, place, colour):
        """Give a place a colour, or raise TooMany."""
        paint_square(self.painted, place, colour)

    def reading(self):
        """Return the state and the colour by which the walker goes on, or has stopped."""
        return (self.walker[3], self.colour_of(self.walker[:2]))

    def has_stopped(self):
        """Tell whether no step is left to do."""
        state, colour = self.reading()
        return self.table[state][colour] is None

    def go(self, many):
        """Do many steps, or those that there are, and return what each did.

        Of each the walker ahead of it is told, the colour that it read, and the one that it painted.
        """
        told = []
        for _ in range(many):
            place = self.walker[:2]
            colour = self.colour_of(place)
            entry = self.table[self.walker[3]][colour]
            if entry is None:
                break
            self.paint(place, entry[0])
            told.append((self.walker, colour, entry[0]))
            self.walker = _walker_behind(self.walker, entry)
        return told


def _walker_behind(walker, entry):
    x, y, heading, _ = walker
    _, turn, state = entry
    heading = (heading + turn) % 4
    dx, dy = AHEAD[heading]
    return (x + dx, y + dy, heading, state)
