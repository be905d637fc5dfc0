"""Whether two walkers, each on its own way for all time, ever stand on one square."""

from math import gcd

from streetpapers.papers import lane_of


def ever_cross(course, other):
    """Tell whether the walkers of two right courses ever stand on one square, whenever each does."""
    once, again = _stood(course)
    other_once, other_again = _stood(other)
    held = {place: True for place in once}
    if any([place in held for place in other_once]):
        return True
    if _comes_upon(again, course.move, other_once) or _comes_upon(other_again, other.move, once):
        return True
    return _streets_cross(again, course.move, other_again, other.move)


def _stood(course):
    """Return the places on which the walker stands but so often, and those that move on with a street."""
    places = [walker[:2] for walker, _, _ in course.steps]
    if course.kind == "street":
        return (places[:course.first], places[course.first:])
    return (places + [course.end[:2]], [])


def _comes_upon(again, move, places):
    """Tell whether a street whose round stands on the places again, moved on and on, comes upon some places."""
    begins = {}
    for place in again:
        lane, along = lane_of(place, move)
        begins[lane] = min(along, begins.get(lane, along))
    if not begins:
        return False
    lanes = [lane_of(place, move) for place in places]
    return any([lane in begins and begins[lane] <= along for lane, along in lanes])


def _streets_cross(again, move, other_again, other_move):
    if not again or not other_again:
        return False
    slant = move[0] * other_move[1] - move[1] * other_move[0]
    if slant != 0:
        corners = _by_moves(again, move, other_move, slant)
        return _slanted_cross(corners, _by_moves(other_again, move, other_move, slant))
    common = gcd(move[0], move[1])
    one = (move[0] // common, move[1] // common)
    # Each move is so many times this one: those of the other street may be below 0.
    other_many = other_move[0] // one[0] if one[0] != 0 else other_move[1] // one[1]
    lines, other_lines = _by_lines(again, one), _by_lines(other_again, one)
    if other_many > 0:
        return _one_follows(lines, other_lines, gcd(common, other_many))
    return _ones_meet(lines, common, other_lines, -other_many)


def _by_moves(places, move, other_move, slant):
    """Return how many of each move lead to the places, by what is left of them that no whole moves tell."""
    found = {}
    for x, y in places:
        many, left = divmod(x * other_move[1] - y * other_move[0], slant)
        other_many, other_left = divmod(move[0] * y - move[1] * x, slant)
        found.setdefault((left, other_left), []).append((many, other_many))
    return found


def _slanted_cross(corners, other_corners):
    """Tell whether streets of moves that are not parallel cross.

    One walker comes by more of its moves, the other by more of the other moves: they meet where the first one
    begins with no more of its moves, and with no fewer of the other ones.
    """
    for left in corners:
        if left in other_corners and _some_meet(sorted(corners[left]), sorted(other_corners[left])):
            return True
    return False


def _some_meet(begins, other_begins):
    most = None
    at = 0
    for many, other_many in other_begins:
        while at < len(begins) and begins[at][0] <= many:
            most = begins[at][1] if most is None else max(most, begins[at][1])
            at += 1
        if most is not None and most >= other_many:
            return True
    return False


def _by_lines(places, one):
    """Return how far along their lines places lie, by lines in the direction of a move."""
    lines = {}
    for place in places:
        line, along = lane_of(place, one)
        lines.setdefault(line, []).append(along)
    return lines


def _one_follows(lines, other_lines, common):
    """Tell whether streets that go the same way cross: both reach as far as one likes."""
    for line in lines:
        if line in other_lines:
            left = {along % common: True for along in lines[line]}
            if any([along % common in left for along in other_lines[line]]):
                return True
    return False


def _ones_meet(lines, many, other_lines, other_many):
    """Tell whether streets cross that come towards one another, by so many squares each time, or leave so."""
    # The least way by whole rounds of the first street, by what the other one's rounds leave of it.
    least = {}
    for k in range(other_many):
        least.setdefault(k * many % other_many, k * many)
    for line in lines:
        begins = _ends(lines[line], many, 1)
        for end in _ends(other_lines.get(line, []), other_many, -1):
            ways = [end - begin for begin in begins if begin <= end]
            if any([least.get(way % other_many, way + 1) <= way for way in ways]):
                return True
    return False


def _ends(alongs, many, sign):
    """Return the hindmost of some places along a line, of those that lie whole rounds apart one alone."""
    hindmost = {}
    for along in alongs:
        left = along % many
        if left not in hindmost or along * sign < hindmost[left] * sign:
            hindmost[left] = along
    return [hindmost[left] for left in hindmost]
