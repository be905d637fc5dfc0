"""Floors on which a walk is the same, and what squares matter to it, for all time."""

from streetpapers.checks import check_place
from streetpapers.errors import TooMany
from streetpapers.firsts import first_visits
from streetpapers.floors import MOST_SQUARES, check_floor
from streetpapers.papers import judged_course
from streetpapers.walks import check_stand

MOST_PLACES = 400


def first_unlike(table, floor, walker, paper, other):
    """Return the least number of steps behind which the walker reads what it wouldn't on the other floor, or None."""
    check_stand(table, floor, walker)
    course = judged_course(table, floor, walker, paper)
    check_floor(other, len(table[0]))
    if course is None:
        raise TooMany(MOST_SQUARES)
    # Both walks are the same until they come upon a place that at first is not the same on both floors.
    places = [square[:2] for square in sorted(set(floor) ^ set(other))]
    return min(first_visits(course, places).values(), default=None)


def what_matters(table, floor, walker, paper, corner, end):
    """Return the places of a box whose first colour the walk ever reads, each with the step that reads it."""
    check_stand(table, floor, walker)
    course = judged_course(table, floor, walker, paper)
    check_place(corner)
    check_place(end)
    if course is None:
        raise TooMany(MOST_SQUARES)
    visits = first_visits(course, _places_of(corner, end))
    return tuple(sorted([(place, visits[place]) for place in visits]))


def _places_of(corner, end):
    """Return the places of a box, or raise TooMany."""
    wide = end[0] - corner[0] + 1
    high = end[1] - corner[1] + 1
    if wide <= 0 or high <= 0:
        return []
    if wide * high > MOST_PLACES:
        raise TooMany(MOST_PLACES)
    return [(corner[0] + k, corner[1] + n) for k in range(wide) for n in range(high)]
