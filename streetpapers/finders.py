"""Papers found by walking, and papers that begin as early as can be."""

from streetpapers.checks import check_number
from streetpapers.papers import LONGEST_PERIOD, Course, right_course
from streetpapers.walks import Stroll, check_stand

MOST_WALKED = 30000


def find_paper(table, floor, walker, steps, most):
    """Return a right paper that so many steps show, a street's period being at most most, or None."""
    check_stand(table, floor, walker)
    return found_paper(table, floor, walker, steps, most)


def found_paper(table, floor, walker, steps, most):
    """Return what find_paper does, also for a floor and a walker that lie beyond all places."""
    check_number(steps, 1, MOST_WALKED)
    check_number(most, 1, LONGEST_PERIOD)
    stroll = Stroll(table, floor, walker)
    told = stroll.go(steps)
    if stroll.has_stopped():
        return ("stops", len(told))
    for paper in _likely_papers(told, most):
        if Course(Stroll(table, floor, walker), paper).holds():
            return paper
    return None


def soonest(table, floor, walker, paper):
    """Return the right paper of the same kind and period that begins as early as can be."""
    course = right_course(table, floor, walker, paper, 0, (0, 0))
    if course.kind == "stops":
        return paper
    stances = _stances(course.steps)
    first = course.first
    while first > 0 and stances[first - 1] == stances[first - 1 + course.period]:
        first -= 1
    return (course.kind, first, course.period)


def _stances(told):
    """Return the heading, the state and the colour read of each step: what a street does again and again."""
    return [(walker[2], walker[3], colour) for walker, colour, _ in told]


def _likely_papers(told, most):
    """Return the papers that two rounds or more at the end of a walk bear out, by ascending periods.

    A round borne out so is right: as its second time reads what the first one read, the first one left all
    places as they were. A street may yet come upon something.
    """
    agree = _agreements(_stances(told)[::-1], min(LONGEST_PERIOD, len(told) // 2))
    papers = []
    for period in _likely_periods(agree):
        first = len(told) - period - agree[period]
        if told[first][0][:2] == told[first + period][0][:2]:
            papers.append(("round", first, period))
        elif period <= most:
            papers.append(("street", first, period))
    return papers


def _likely_periods(agree):
    """Return the periods of which the last steps are two rounds or more.

    Left out is a period whose last round is shorter rounds alone: if it were right, the shorter one would be.
    """
    periods = []
    for period in range(1, len(agree)):
        multiple = any([period % short == 0 and short + agree[short] >= period for short in periods])
        if agree[period] >= period and not multiple:
            periods.append(period)
    return periods


def _agreements(items, most):
    """Return for each shift up to most how many items, from the shift on, agree with those at the beginning.

    Where the items from left to right are known to agree with those at the beginning, what is known of the
    beginning tells how far a shift between them agrees, so that no item is compared with ever more others.
    """
    agree = [len(items)]
    left = right = 0
    for shift in range(1, most + 1):
        many = min(agree[shift - left], right - shift) if shift < right else 0
        while shift + many < len(items) and items[many] == items[shift + many]:
            many += 1
        agree.append(many)
        if shift + many > right:
            left = shift
            right = shift + many
    return agree
