"""Teams: several walkers on one floor, together and each alone."""

from streetpapers.checks import FAR, check_number, check_place
from streetpapers.crossings import ever_cross
from streetpapers.errors import BadPaper, BadWalker, TooMany
from streetpapers.floors import MOST_SQUARES, check_floor, floor_of, painted_places
from streetpapers.papers import judged_course
from streetpapers.tables import check_table
from streetpapers.walks import MOST_STEPS, Stroll, check_walker

MOST_WALKERS = 4


def team_walk(table, floor, walkers, beats):
    """Return the floor and the walkers behind so many beats."""
    _check_team(table, floor, walkers)
    check_number(beats, 0, MOST_STEPS)
    painted = painted_places(floor)
    strolls = [Stroll(table, floor, walker) for walker in walkers]
    for stroll in strolls:
        # They share one floor: what one of them paints, the others read.
        stroll.painted = painted
    for _ in range(beats):
        for stroll in strolls:
            stroll.go(1)
    return (floor_of(painted), tuple([stroll.walker for stroll in strolls]))


def never_cross(table, floor, walkers, papers):
    """Tell whether no square is ever stood on by two of the walkers, each on its own way alone."""
    courses = _courses(table, floor, walkers, papers)
    if None in courses:
        raise TooMany(MOST_SQUARES)
    return not _some_cross(courses)


def team_at(table, floor, walkers, papers, beat):
    """Return the walkers behind a number of beats."""
    courses = _courses_apart(table, floor, walkers, papers, beat, (0, 0))
    return tuple([course.walker_behind(beat) for course in courses])


def team_painted_at(table, floor, walkers, papers, beat):
    """Return how many squares are painted behind a number of beats."""
    courses = _courses_apart(table, floor, walkers, papers, beat, (0, 0))
    return len(floor) + sum([course.painted_behind(beat) - len(floor) for course in courses])


def team_colour_at(table, floor, walkers, papers, beat, place):
    """Return the colour of a place behind a number of beats."""
    courses = _courses_apart(table, floor, walkers, papers, beat, place)
    first = painted_places(floor).get(place, 0)
    # Walkers that never cross have each their own places: one of them at most has changed this one.
    changed = [colour for colour in [course.colour_behind(beat, place) for course in courses] if colour != first]
    return changed[0] if changed else first


def _check_team(table, floor, walkers):
    check_table(table)
    check_floor(floor, len(table[0]))
    if not isinstance(walkers, tuple) or not 1 <= len(walkers) <= MOST_WALKERS:
        raise BadWalker("a team is a tuple of 1 to 4 walkers")
    for walker in walkers:
        check_walker(walker, len(table))


def _courses(table, floor, walkers, papers):
    """Return the course of each walker alone, None for one that would paint too many squares."""
    _check_team(table, floor, walkers)
    if not isinstance(papers, tuple) or len(papers) != len(walkers):
        raise BadPaper("a tuple of a paper for each walker is wanted")
    return [judged_course(table, floor, walker, paper) for walker, paper in zip(walkers, papers)]


def _courses_apart(table, floor, walkers, papers, beat, place):
    """Return the courses of walkers that never cross, once all arguments are found to be right."""
    courses = _courses(table, floor, walkers, papers)
    if _some_cross([course for course in courses if course is not None]):
        raise BadPaper("the walkers cross")
    check_number(beat, 0, FAR)
    check_place(place)
    if None in courses:
        raise TooMany(MOST_SQUARES)
    return courses


def _some_cross(courses):
    for at, course in enumerate(courses):
        if any([ever_cross(course, other) for other in courses[:at]]):
            return True
    return False
