"""Tables, floors and walkers, left and right exchanged."""

from streetpapers.floors import check_floor
from streetpapers.tables import MOST_COLOURS, check_table
from streetpapers.walks import check_walker


def mirrored_table(table):
    """Return a table with turns to the right and to the left exchanged."""
    check_table(table)
    return tuple([tuple([_mirrored_entry(entry) for entry in state]) for state in table])


def mirrored(floor):
    """Return a floor with each x made -x."""
    check_floor(floor, MOST_COLOURS)
    return tuple(sorted([(-x, y, colour) for x, y, colour in floor]))


def mirrored_walker(table, walker):
    """Return a walker with x made -x and the headings right and left exchanged."""
    check_table(table)
    check_walker(walker, len(table))
    x, y, heading, state = walker
    return (-x, y, _mirrored_quarters(heading), state)


def is_own_mirror(table):
    """Tell whether a table is its own mirror."""
    return mirrored_table(table) == table


def _mirrored_entry(entry):
    if entry is None:
        return None
    paint, turn, state = entry
    return (paint, _mirrored_quarters(turn), state)


def _mirrored_quarters(quarters):
    return -quarters % 4
