"""What a walk asks of its table, and the tables by which it would be the same."""

from streetpapers.checks import check_number
from streetpapers.tables import check_table
from streetpapers.walks import MOST_STEPS, Stroll, check_stand


def asked(table, floor, walker, many):
    """Return the ascending pairs (state, colour) that the walk reads in so many steps."""
    check_stand(table, floor, walker)
    check_number(many, 0, MOST_STEPS)
    return _asked(table, floor, walker, many)


def walks_alike(table, floor, walker, many, other):
    """Tell whether another table has the same entries for all that the walk reads in so many steps."""
    check_stand(table, floor, walker)
    check_number(many, 0, MOST_STEPS)
    check_table(other)
    if len(table) != len(other) or len(table[0]) != len(other[0]):
        return False
    pairs = _asked(table, floor, walker, many)
    return all([table[state][colour] == other[state][colour] for state, colour in pairs])


def kin_count(table, floor, walker, many):
    """Return how many tables there are by which the walk of so many steps is the same."""
    pairs = asked(table, floor, walker, many)
    states, colours = len(table), len(table[0])
    count = 1
    for _ in range(states * colours - len(pairs)):
        # An entry that is not asked for may be any (paint, turn, state), or None.
        count *= colours * 4 * states + 1
    return count


def _asked(table, floor, walker, many):
    stroll = Stroll(table, floor, walker)
    told = stroll.go(many)
    pairs = [(ahead[3], colour) for ahead, colour, _ in told]
    if len(told) < many:
        pairs.append(stroll.reading())
    return tuple(sorted(set(pairs)))
