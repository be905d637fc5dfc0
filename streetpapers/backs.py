"""Walks taken back, where just one stand can have come before each."""

from streetpapers.checks import check_number
from streetpapers.errors import NoWayBack
from streetpapers.floors import floor_of, paint_square, painted_places
from streetpapers.tables import check_table
from streetpapers.walks import AHEAD, MOST_STEPS, check_stand


def can_be_undone(table):
    """Tell whether unlike pairs of state and colour always lead to unlike pairs of state and paint."""
    check_table(table)
    return _loses_nothing(table)


def back(table, floor, walker, many):
    """Return the floor and the walker many steps before."""
    check_stand(table, floor, walker)
    check_number(many, 0, MOST_STEPS)
    if not _loses_nothing(table):
        raise NoWayBack("the table cannot be undone")
    ways = {(state, paint): (colour, turn, before) for before, colour, paint, turn, state in _entries(table)}
    painted = painted_places(floor)
    stand = walker
    for _ in range(many):
        stand = _step_back(ways, painted, stand)
    return (floor_of(painted), stand)


def _entries(table):
    """Return (state, colour, paint, turn, next state) for all entries that aren't None."""
    found = []
    for state, row in enumerate(table):
        for colour, entry in enumerate(row):
            if entry is not None:
                found.append((state, colour, *entry))
    return found


def _loses_nothing(table):
    ends = [(state, paint) for _, _, paint, _, state in _entries(table)]
    return len(set(ends)) == len(ends)


def _step_back(ways, painted, walker):
    """Take the last step back in the dict of painted squares, and return the walker ahead of it."""
    x, y, heading, state = walker
    dx, dy = AHEAD[heading]
    place = (x - dx, y - dy)
    way = ways.get((state, painted.get(place, 0)))
    if way is None:
        raise NoWayBack("no entry leads to this stand")
    colour, turn, before = way
    paint_square(painted, place, colour)
    return (place[0], place[1], (heading - turn) % 4, before)
