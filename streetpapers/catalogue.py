"""How the walks from all small floors go on for ever, counted by kinds."""

from streetpapers.checks import check_number
from streetpapers.errors import TooMany
from streetpapers.finders import found_paper
from streetpapers.papers import Course
from streetpapers.tables import check_table
from streetpapers.walks import Stroll

LONGEST_SIDE = 6
MOST_WALKED = 4000
LONGEST_PERIOD = 200
MOST_PLACES = 6
MOST_FLOORS = 800
START = (0, 0, 0, 0)


def catalogue(table, wide, high, steps, most):
    """Return the kinds of the papers found for all floors of some columns and rows, and of how many floors each."""
    check_table(table)
    check_number(wide, 1, LONGEST_SIDE)
    check_number(high, 1, LONGEST_SIDE)
    check_number(steps, 1, MOST_WALKED)
    check_number(most, 1, LONGEST_PERIOD)
    if wide * high > MOST_PLACES:
        raise TooMany(MOST_PLACES)
    counts = {}
    for floor in _floors(len(table[0]), wide, high):
        kind = _kind(table, floor, found_paper(table, floor, START, steps, most))
        counts[kind] = counts.get(kind, 0) + 1
    return tuple([(kind, counts[kind]) for kind in sorted(counts)])


def _floors(colours, wide, high):
    """Return all floors of so many columns and rows, or raise TooMany."""
    floors = [()]
    for place in [(x, y) for x in range(wide) for y in range(high)]:
        floors = [_with_square(floor, place, colour) for floor in floors for colour in range(colours)]
        if len(floors) > MOST_FLOORS:
            raise TooMany(MOST_FLOORS)
    return floors


def _with_square(floor, place, colour):
    return floor if colour == 0 else (*floor, (*place, colour))


def _kind(table, floor, paper):
    """Return what kind of a walk a paper tells: streets that are turned, or begin later, are of one kind."""
    if paper is None:
        return ("unknown",)
    if paper[0] == "stops":
        return ("stops",)
    if paper[0] == "round":
        return ("round", paper[2])
    x, y = Course(Stroll(table, floor, START), paper).move
    return ("street", paper[2], max((x, y), (-y, x), (-x, -y), (y, -x)))
