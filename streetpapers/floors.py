"""Floors: tuples of painted squares, moved, turned, written and read."""

from streetpapers.checks import check_number, check_place, check_text, is_place, is_whole
from streetpapers.errors import BadFloor, InvalidText, TooMany
from streetpapers.tables import FIGURES, MOST_COLOURS

MOST_SQUARES = 4000
LONGEST_SIDE = 9999
MOST_ROWS = 10000
MOST_FIGURES = 4
SIGNS = ".abcde"
# What lies under a floor's painted squares, as the rows that come again and again.
BLANK = ((0,),)


def moved(floor, move):
    """Return a floor, moved by a place."""
    check_floor(floor, MOST_COLOURS)
    check_place(move)
    return _moved_by(floor, move[0], move[1])


def turned(floor, quarters):
    """Return a floor, turned by so many quarters to the right about (0, 0)."""
    check_floor(floor, MOST_COLOURS)
    check_number(quarters, 0, 3)
    squares = list(floor)
    for _ in range(quarters):
        squares = [(-y, x, colour) for x, y, colour in squares]
    return tuple(sorted(squares))


def box(floor):
    """Return (least x, least y, greatest x, greatest y) of the painted squares, None for a blank floor."""
    check_floor(floor, MOST_COLOURS)
    return box_of([square[:2] for square in floor])


def write_floor(floor):
    """Return the text of a floor and the place where its least x and y are."""
    edges = box(floor)
    if edges is None:
        return ("", (0, 0))
    left, top, right, bottom = edges
    if right - left >= LONGEST_SIDE or bottom - top >= LONGEST_SIDE:
        raise TooMany(LONGEST_SIDE)
    rows = [[] for _ in range(bottom - top + 1)]
    for x, y, colour in floor:
        rows[y - top].append((x - left, colour))
    return ("/".join([_row_text(row) for row in rows]), (left, top))


def read_floor(text):
    """Return the floor that a text tells, its rows from y = 0 on, its signs from x = 0 on."""
    check_text(text)
    squares = []
    x = y = at = 0
    while at < len(text):
        sign_at = _behind_figures(text, at)
        many = _run_length(text, at, sign_at)
        if text[sign_at] == "/":
            x = 0
            y += 1
        else:
            # One square too many is enough to know that there are too many: a run may be very long.
            taken = min(many, MOST_SQUARES + 1 - len(squares))
            squares.extend(_run_squares(x, y, text[sign_at], taken))
            x += many
        if x > LONGEST_SIDE or y >= MOST_ROWS:
            raise InvalidText(sign_at)
        at = sign_at + 1
    if len(squares) > MOST_SQUARES:
        raise InvalidText(0)
    return tuple(sorted(squares))


def check_floor(value, colours):
    """Raise BadFloor for no floor of so many colours."""
    if not isinstance(value, tuple) or len(value) > MOST_SQUARES:
        raise BadFloor(None)
    for index, square in enumerate(value):
        if not _is_square(square, colours):
            raise BadFloor(index)
        if index > 0 and square[:2] <= value[index - 1][:2]:
            raise BadFloor(index)


def painted_places(floor):
    """Return the dict of the colours of a floor's painted squares by their places."""
    return {(x, y): colour for x, y, colour in floor}


def floor_of(painted):
    """Return the floor that has just these painted squares, a dict of colours by places."""
    return tuple(sorted([(x, y, painted[(x, y)]) for x, y in painted]))


def box_of(places):
    """Return (least x, least y, greatest x, greatest y) of some places, None for none."""
    if not places:
        return None
    xs = [x for x, _ in places]
    ys = [y for _, y in places]
    return (min(xs), min(ys), max(xs), max(ys))


def ground_colour(ground, place):
    """Return the colour that the rows of a ground have at a place."""
    x, y = place
    row = ground[y % len(ground)]
    return row[x % len(row)]


def paint_square(painted, place, colour):
    """Give a place a colour in a dict of painted squares, or raise TooMany and change nothing."""
    if colour == 0:
        painted.pop(place, None)
    elif place in painted or len(painted) < MOST_SQUARES:
        painted[place] = colour
    else:
        raise TooMany(MOST_SQUARES)


def _moved_by(floor, dx, dy):
    return tuple([(x + dx, y + dy, colour) for x, y, colour in floor])


def _is_square(value, colours):
    if not isinstance(value, tuple) or len(value) != 3:
        return False
    return is_place(value[:2]) and is_whole(value[2], 1, colours - 1)


def _row_text(row):
    """Return the text of a row, its painted squares being (x, colour), ascending."""
    runs = []
    end = 0
    for x, colour in row:
        if x > end:
            runs.append((x - end, "."))
        if runs and runs[-1][1] == SIGNS[colour]:
            runs[-1] = (runs[-1][0] + 1, SIGNS[colour])
        else:
            runs.append((1, SIGNS[colour]))
        end = x + 1
    return "".join([sign if many == 1 else f"{many}{sign}" for many, sign in runs])


def _behind_figures(text, at):
    while at < len(text) and text[at] in FIGURES:
        at += 1
    return at


def _run_length(text, at, sign_at):
    """Return the number that stands from at to sign_at, 1 where none does, if both it and the sign may stand."""
    if sign_at == len(text) or text[sign_at] not in SIGNS + "/":
        raise InvalidText(sign_at)
    if sign_at == at:
        return 1
    if sign_at - at > MOST_FIGURES or text[sign_at] == "/" or int(text[at:sign_at]) == 0:
        raise InvalidText(sign_at)
    return int(text[at:sign_at])


def _run_squares(x, y, sign, many):
    if sign == ".":
        return []
    return [(x + k, y, SIGNS.index(sign)) for k in range(many)]
