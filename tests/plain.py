"""Walks done in the plainest way, and sample tables: what the tests hold the program against."""

import random

ANT = (((1, 1, 0), (0, 3, 0)),)
TRIPLE = (((1, 1, 0), (2, 1, 0), (0, 3, 0)),)
STRAIGHT = (((0, 0, 0), (0, 1, 0)),)
PAINTER = (((1, 0, 0), (1, 0, 0)),)
HALTING = (((0, 0, 0), None),)
DELTAS = {0: (0, -1), 1: (1, 0), 2: (0, 1), 3: (-1, 0)}
FAR = 10 ** 60


def plain_stands(table, floor, walker, many):
    """The list of (floor, walker, colour read) behind 0, 1 .. steps, up to many, or the stop."""
    squares = {(x, y): colour for x, y, colour in floor}
    x, y, heading, state = walker
    stands = []
    for done in range(many + 1):
        colour = squares.get((x, y), 0)
        held = tuple(sorted((a, b, squares[a, b]) for a, b in squares))
        stands.append((held, (x, y, heading, state), colour))
        entry = table[state][colour]
        if entry is None:
            break
        squares.pop((x, y), None)
        if entry[0]:
            squares[x, y] = entry[0]
        heading = (heading + entry[1]) % 4
        state = entry[2]
        x += DELTAS[heading][0]
        y += DELTAS[heading][1]
    return stands


def plain_street(table, floor, walker, first, period, rounds):
    """Whether the walk repeats itself for so many rounds from first on, each time moved on."""
    stands = plain_stands(table, floor, walker, first + period * rounds)
    if len(stands) <= first + period * rounds:
        return False
    (x, y, heading, state), (far_x, far_y, far_heading, far_state) = stands[first][1], stands[first + period][1]
    move = (far_x - x, far_y - y)
    if move == (0, 0) or (heading, state) != (far_heading, far_state):
        return False
    for at in range(first, first + period * (rounds - 1)):
        here, there = stands[at], stands[at + period]
        if here[2] != there[2] or (here[1][0] + move[0], here[1][1] + move[1]) != there[1][:2]:
            return False
    return True


def plain_round(table, floor, walker, first, period):
    stands = plain_stands(table, floor, walker, first + period)
    return len(stands) > first + period and stands[first][:2] == stands[first + period][:2]


def some_table(dice, states, colours, stops):
    """A table by chance, of whose entries about one in stops is None (none for 0)."""
    def entry():
        if stops and dice.randrange(stops) == 0:
            return None
        return (dice.randrange(colours), dice.randrange(4), dice.randrange(states))
    return tuple(tuple(entry() for _ in range(colours)) for _ in range(states))


def some_undoable(dice, states, colours, stops):
    """A table by chance that can be undone."""
    ends = [(paint, state) for paint in range(colours) for state in range(states)]
    dice.shuffle(ends)

    def entry():
        paint, state = ends.pop()
        if stops and dice.randrange(stops) == 0:
            return None
        return (paint, dice.randrange(4), state)
    return tuple(tuple(entry() for _ in range(colours)) for _ in range(states))


def some_floor(dice, colours, reach, many):
    squares = {}
    for _ in range(many):
        squares[dice.randrange(-reach, reach + 1), dice.randrange(-reach, reach + 1)] = dice.randrange(1, colours)
    return tuple(sorted((x, y, squares[x, y]) for x, y in squares))


def some_stand(dice, states=2, colours=3, stops=6, reach=4, many=6):
    """A table, a floor and a walker by chance."""
    states = dice.randrange(1, states + 1)
    colours = dice.randrange(2, colours + 1)
    table = some_table(dice, states, colours, stops)
    floor = some_floor(dice, colours, reach, dice.randrange(many + 1))
    walker = (dice.randrange(-2, 3), dice.randrange(-2, 3), dice.randrange(4), dice.randrange(states))
    return table, floor, walker


def dice_of(seed):
    """Chance that falls alike in each run."""
    return random.Random(seed)
