"""Rings: small floors without an edge, on which each walk stops or comes round."""

from streetpapers.checks import check_number
from streetpapers.errors import BadFloor, BadWalker, TooMany
from streetpapers.floors import floor_of
from streetpapers.walks import MOST_STEPS, Stroll, check_stand

LONGEST_SIDE = 40
MOST_LIVED = 20000
BITS_OF_COLOUR = 3


def ring_walk(table, floor, walker, wide, high, many):
    """Return the floor and the walker behind many steps, or where it stops, and how many steps were done."""
    _check_ring(table, floor, walker, wide, high)
    check_number(many, 0, MOST_STEPS)
    stroll = Stroll(table, floor, walker)
    done = 0
    while done < many and not stroll.has_stopped():
        _step_round(stroll, wide, high)
        done += 1
    return (floor_of(stroll.painted), stroll.walker, done)


def ring_life(table, floor, walker, wide, high):
    """Return (tail, round): from which step on the stand comes again, and behind how many; (n, 0) for a stop."""
    _check_ring(table, floor, walker, wide, high)
    stroll = Stroll(table, floor, walker)
    code = sum([_coded((x, y), colour, wide) for x, y, colour in floor])
    seen = {}
    for done in range(MOST_LIVED + 1):
        if stroll.has_stopped():
            return (done, 0)
        stand = (code, stroll.walker)
        if stand in seen:
            return (seen[stand], done - seen[stand])
        seen[stand] = done
        place, colour, paint = _step_round(stroll, wide, high)
        code += _coded(place, paint, wide) - _coded(place, colour, wide)
    raise TooMany(MOST_LIVED)


def _check_ring(table, floor, walker, wide, high):
    check_stand(table, floor, walker)
    check_number(wide, 1, LONGEST_SIDE)
    check_number(high, 1, LONGEST_SIDE)
    for index, (x, y, _) in enumerate(floor):
        if not _lies_on(x, y, wide, high):
            raise BadFloor(index)
    if not _lies_on(walker[0], walker[1], wide, high):
        raise BadWalker("the walker does not lie on the ring")


def _lies_on(x, y, wide, high):
    return 0 <= x < wide and 0 <= y < high


def _step_round(stroll, wide, high):
    """Do a step on the ring, and return the place, the colour that was read there, and the one painted."""
    ahead, colour, paint = stroll.go(1)[0]
    x, y, heading, state = stroll.walker
    # A floor that fits on a ring has few squares: only the walker can leave it.
    stroll.walker = (x % wide, y % high, heading, state)
    return (ahead[:2], colour, paint)


def _coded(place, colour, wide):
    """Return what a square brings to the number that stands for the whole floor."""
    return colour << BITS_OF_COLOUR * (place[1] * wide + place[0])
