"""Plans: what a walker is to do, told in parts; played, made into tables, and written."""

from streetpapers.checks import check_number, is_whole
from streetpapers.errors import BadPlan, Endless, TooMany
from streetpapers.floors import check_floor, floor_of, paint_square, painted_places
from streetpapers.tables import FEWEST_COLOURS, MOST_COLOURS, MOST_STATES
from streetpapers.walks import AHEAD, MOST_STEPS, check_walker

DEEPEST = 6
MOST_PARTS = 60
MOST_TIMES = 8
TURN_WORDS = ("right", "back", "left")
# How many blocks each kind of part has.
BLOCKS = {"paint": 0, "turn": 0, "step": 0, "stop": 0, "if": 2, "while": 1, "repeat": 1, "forever": 1}


def play_plan(plan, floor, x, y, heading, many):
    """Return the floor, (x, y, heading) and how many steps were done, behind many steps or where the plan stops."""
    _check_plan(plan)
    check_floor(floor, plan[0])
    check_walker((x, y, heading, 0), 1)
    check_number(many, 0, MOST_STEPS)
    painted = painted_places(floor)
    todo = plan[1]
    done = 0
    while done < many:
        told = _next_step(todo, painted.get((x, y), 0))
        if told is None:
            break
        paint, turn, todo = told
        paint_square(painted, (x, y), paint)
        heading = (heading + turn) % 4
        x += AHEAD[heading][0]
        y += AHEAD[heading][1]
        done += 1
    return (floor_of(painted), (x, y, heading), done)


def table_of(plan):
    """Return the table that a plan is, with a state for all that is to do at the beginning or behind a step."""
    _check_plan(plan)
    colours, block = plan
    todos = [block]
    states = []
    while len(states) < min(len(todos), MOST_STATES):
        todo = todos[len(states)]
        states.append(tuple([_entry(todos, todo, colour) for colour in range(colours)]))
    if len(todos) > MOST_STATES:
        raise TooMany(MOST_STATES)
    return tuple(states)


def write_plan(plan):
    """Return the text of a plan."""
    _check_plan(plan)
    colours, block = plan
    return "\n".join([f"colours {colours}", *_lines(block)])


def number_limits(word, colours):
    """Return the least and the greatest number of a kind of part, None for one that has no number."""
    if word in ("paint", "if", "while"):
        return (0, colours - 1)
    if word == "turn":
        return (1, len(TURN_WORDS))
    if word == "repeat":
        return (0, MOST_TIMES)
    return None


def blocks_of(part):
    """Return the blocks of a part."""
    return part[len(part) - BLOCKS[part[0]]:]


def _check_plan(value):
    if not _is_plan(value):
        raise BadPlan("a pair of 2 to 6 colours and a block of parts is wanted")


def _is_plan(value):
    if not isinstance(value, tuple) or len(value) != 2:
        return False
    colours, block = value
    if not is_whole(colours, FEWEST_COLOURS, MOST_COLOURS):
        return False
    parts = 0
    blocks = [(block, 1)]
    while blocks:
        block, depth = blocks.pop()
        if not isinstance(block, tuple) or depth > DEEPEST:
            return False
        parts += len(block)
        if parts > MOST_PARTS or not all([_is_part(part, colours) for part in block]):
            return False
        blocks.extend([(inner, depth + 1) for part in block for inner in blocks_of(part)])
    return True


def _is_part(value, colours):
    """Tell whether a value is a part, whatever stands in the places of its blocks."""
    if not isinstance(value, tuple) or not value or not isinstance(value[0], str) or value[0] not in BLOCKS:
        return False
    limits = number_limits(value[0], colours)
    numbers = 0 if limits is None else 1
    if len(value) != 1 + numbers + BLOCKS[value[0]]:
        return False
    return limits is None or is_whole(value[1], limits[0], limits[1])


def _entry(todos, todo, colour):
    """Return a table's entry, what is to do behind its step being put among all that is, if it is new."""
    told = _next_step(todo, colour)
    if told is None:
        return None
    paint, turn, behind = told
    if behind not in todos:
        todos.append(behind)
    return (paint, turn % 4, todos.index(behind))


def _next_step(todo, colour):
    """Return what is done in the next step, as _done tells it, None if there is none, whatever is to do ahead."""
    told = _done(todo, colour)
    return None if told is None or told[2] is None else told


def _done(block, colour):
    """Return what a block does on a square that has, or is to have, a colour; None if it comes to a stop.

    It is told by the colour that the square is to have then, the quarters turned, and what is left to do of the
    block behind the first step that it comes to, None if it comes to its end without a step.
    """
    turn = 0
    for at, part in enumerate(block):
        told = _part_done(part, colour)
        if told is None:
            return None
        colour, more, left = told
        turn += more
        if left is not None:
            return (colour, turn, left + block[at + 1:])
    return (colour, turn, None)


def _part_done(part, colour):
    word = part[0]
    if word == "stop":
        return None
    if word == "step":
        return (colour, 0, ())
    if word == "paint":
        return (part[1], 0, None)
    if word == "turn":
        return (colour, part[1], None)
    if word == "if":
        return _done(part[2] if colour == part[1] else part[3], colour)
    if word == "repeat":
        return _repeat_done(part[1], part[2], colour)
    return _loop_done(part, colour)


def _repeat_done(many, block, colour):
    turn = 0
    # What is within may be repeated, too: without this, many repeats within one another would take very long.
    known = {}
    for done in range(many):
        if colour not in known:
            known[colour] = _done(block, colour)
        if known[colour] is None:
            return None
        colour, more, left = known[colour]
        turn += more
        if left is not None:
            return (colour, turn, left + block * (many - done - 1))
    return (colour, turn, None)


def _loop_done(part, colour):
    """Return what a while or a forever does. A colour that comes again, without a step, comes again for ever."""
    turn = 0
    begun = []
    while part[0] == "forever" or colour == part[1]:
        if colour in begun:
            raise Endless("the plan goes on for ever without a step or a stop")
        begun.append(colour)
        told = _done(part[-1], colour)
        if told is None:
            return None
        colour, more, left = told
        turn += more
        if left is not None:
            return (colour, turn, (*left, part))
    return (colour, turn, None)


def _lines(block):
    """Return the lines that tell the parts of a block."""
    lines = []
    for part in block:
        lines.append(_line(part))
        blocks = blocks_of(part)
        for at, inner in enumerate(blocks):
            if at > 0 and inner:
                lines.append("else")
            lines.extend(_lines(inner))
        if blocks:
            lines.append("end")
    return lines


def _line(part):
    word = part[0]
    if word == "turn":
        return f"{word} {TURN_WORDS[part[1] - 1]}"
    if number_limits(word, MOST_COLOURS) is None:
        return word
    return f"{word} {part[1]}"
