"""A census of the rising tables, whose colours come one behind the other."""

from streetpapers.checks import check_number
from streetpapers.corners import LEFT, RIGHT, never_bounded
from streetpapers.finders import find_paper
from streetpapers.tables import write_table

FEWEST_COLOURS = 2
MOST_COLOURS = 4
MOST_WALKED = 4000
LONGEST_PERIOD = 200


def census(colours, steps, most):
    """Return the text of each rising table and the paper that so many steps on a blank floor show, or None."""
    check_number(colours, FEWEST_COLOURS, MOST_COLOURS)
    check_number(steps, 1, MOST_WALKED)
    check_number(most, 1, LONGEST_PERIOD)
    tables = _rising_tables(colours)
    return tuple([(write_table(table), find_paper(table, (), (0, 0, 0, 0), steps, most)) for table in tables])


def count_never_bounded(colours):
    """Return how many rising tables never stay within bounds."""
    check_number(colours, FEWEST_COLOURS, MOST_COLOURS)
    return len([table for table in _rising_tables(colours) if never_bounded(table)])


def _rising_tables(colours):
    """Return the rising tables, the first colour's turn changing slowest."""
    rows = [()]
    for colour in range(colours):
        paint = (colour + 1) % colours
        rows = [(*row, (paint, turn, 0)) for row in rows for turn in (RIGHT, LEFT)]
    return [(row,) for row in rows]
