"""When a walker stands on a place, first and how often, and the box of what is painted, for all time."""

from streetpapers.floors import box_of
from streetpapers.papers import lane_of, right_course


def first_stood(table, floor, walker, paper, place):
    """Return the least number of steps behind which the walker stands on a place, None if it never does."""
    course = right_course(table, floor, walker, paper, 0, place)
    return first_visits(course, [place]).get(place)


def times_stood(table, floor, walker, paper, step, place):
    """Return behind how many numbers of steps, up to this one or the stop, the walker stands on a place."""
    course = right_course(table, floor, walker, paper, step, place)
    once = [ahead[:2] for ahead, _, _ in course.steps[:course.first]]
    if course.kind == "stops":
        once.append(course.end[:2])
    times = len([at for at, stood in enumerate(once) if at <= step and stood == place])
    for at, (ahead, _, _) in enumerate(course.loop):
        left = step - course.first - at
        if left >= 0:
            times += _times_again(ahead[:2], course.move, place, left // course.period)
    return times


def painted_box(table, floor, walker, paper, step):
    """Return the box of what is painted behind so many steps, None if nothing is."""
    course = right_course(table, floor, walker, paper, step, (0, 0))
    near, rounds = course.near(step)
    if rounds == 0 or course.kind == "round":
        return box_of(list(course.painted_near(near)))
    return box_of(_outer_places(course, near - course.first, rounds))


def first_visits(course, places):
    """Return those of some places on which a right course's walker ever stands, each with its least step."""
    stood = {}
    for at, (ahead, _, _) in enumerate(course.steps):
        stood.setdefault(ahead[:2], at)
    stood.setdefault(course.end[:2], len(course.steps))
    lanes = _lane_steps(course) if course.kind == "street" else {}
    found = {}
    for place in places:
        step = stood[place] if place in stood else _step_again(course, lanes, place)
        if step is not None:
            found[place] = step
    return found


def _times_again(stood, move, place, rounds):
    """Return how often a walker that stood on a square is on a place, in this round and so many more."""
    if move == (0, 0):
        return rounds + 1 if stood == place else 0
    lane, along = lane_of(place, move)
    own_lane, own_along = lane_of(stood, move)
    return 1 if lane == own_lane and 0 <= along - own_along <= rounds else 0


def _step_again(course, lanes, place):
    """Return behind how many steps a street comes upon a place that its first round doesn't, None for never."""
    if not lanes:
        return None
    lane, along = lane_of(place, course.move)
    begun = _up_to(lanes.get(lane, []), along)
    if begun is None:
        return None
    # A round more takes longer than any way within a round: the last one begun is there first.
    begin, at = begun
    return course.first + (along - begin) * course.period + at


def _lane_steps(course):
    """Return, lane by lane, how far along a street's round comes, ascending, each with its first step there."""
    lanes = {}
    for at, (ahead, _, _) in enumerate(course.loop):
        lane, along = lane_of(ahead[:2], course.move)
        lanes.setdefault(lane, {}).setdefault(along, at)
    return {lane: [(along, lanes[lane][along]) for along in sorted(lanes[lane])] for lane in lanes}


def _up_to(begins, along):
    """Return the last of some ascending pairs that begins at most so far along, None if none does."""
    low = 0
    high = len(begins)
    while low < high:
        middle = (low + high) // 2
        if begins[middle][0] <= along:
            low = middle + 1
        else:
            high = middle
    return begins[low - 1] if low > 0 else None


def _outer_places(course, more, rounds):
    """Return painted places of a street, the outermost ones among them, behind one round or more, and more steps."""
    lanes = {}
    for at, (ahead, _, paint) in enumerate(course.loop):
        lane, along = lane_of(ahead[:2], course.move)
        paints, late = lanes.setdefault(lane, ({}, {}))
        paints[along] = paint
        if at < more:
            late[along] = paint
    places = []
    painted = {lane: [] for lane in lanes}
    for place in course.ahead:
        lane, along = lane_of(place, course.move)
        if lane in painted:
            painted[lane].append(along)
        else:
            places.append(place)
    dx, dy = course.move
    for lane in lanes:
        paints, late = lanes[lane]
        outer = _outer_alongs(paints, late, painted[lane], rounds)
        places.extend([(lane[0] + along * dx, lane[1] + along * dy) for along in outer])
    return places


def _outer_alongs(paints, late, painted, rounds):
    """Return how far along a lane painted squares lie, the first and the last one of each stretch of one colour.

    From where it first paints, each step of the round paints as many squares of the lane as there were rounds,
    and the one behind them in the round that is under way, which is told of those that are already late in it.
    Where two of them painted, the one whose squares begin further back came later, and its colour is seen.
    """
    outer = []
    free = None
    for along in sorted(set(list(paints) + painted)):
        untouched = free is None or along >= free
        begin = along if untouched else free
        if along in paints:
            free = along + rounds
            if paints[along] > 0 and begin < free:
                outer.extend([begin, free - 1])
            if along in late:
                if late[along] > 0:
                    outer.append(free)
                free += 1
        elif untouched:
            outer.append(along)
    return outer
