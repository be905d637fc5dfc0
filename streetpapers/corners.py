"""Turning tables: which of them never keep a walker within bounds."""

from streetpapers.errors import NotTurning
from streetpapers.tables import check_table

RIGHT = 1
LEFT = 3


def colour_rounds(table):
    """Return the rounds of a turning table's colours, each from its least colour on."""
    _check_turning(table)
    return _rounds(table)


def never_bounded(table):
    """Tell whether on no floor the walker of a turning table stays within bounds."""
    _check_turning(table)
    return all([_turns_both_ways(table, colours) for colours in _rounds(table)])


def bound_stand(table):
    """Return a floor and a walker that goes round on four squares for ever, or None if there are none."""
    _check_turning(table)
    for colours in _rounds(table):
        if not _turns_both_ways(table, colours):
            return _square_stand(colours[0], table[0][colours[0]][1])
    return None


def _check_turning(table):
    check_table(table)
    if len(table) != 1 or None in table[0]:
        raise NotTurning("one state without None is wanted")
    if any([turn not in (RIGHT, LEFT) for _, turn, _ in table[0]]):
        raise NotTurning("turns to the right and to the left alone are wanted")
    if sorted([paint for paint, _, _ in table[0]]) != list(range(len(table[0]))):
        raise NotTurning("each colour is to be painted for just one colour")


def _rounds(table):
    rounds = []
    known = []
    for least in range(len(table[0])):
        colours = []
        colour = least
        while colour not in known:
            colours.append(colour)
            known.append(colour)
            colour = table[0][colour][0]
        if colours:
            rounds.append(tuple(colours))
    return tuple(rounds)


def _turns_both_ways(table, colours):
    turns = [table[0][colour][1] for colour in colours]
    return RIGHT in turns and LEFT in turns


def _square_stand(colour, turn):
    """Return four squares of a colour, and the walker whose turns at each of them lead it round on them."""
    heading = 0 if turn == RIGHT else 3
    if colour == 0:
        return ((), (0, 0, heading, 0))
    return (((0, 0, colour), (0, 1, colour), (1, 0, colour), (1, 1, colour)), (0, 0, heading, 0))
