"""Walks whose every stand is kept."""

from streetpapers.floors import floor_of
from streetpapers.walks import Stroll


class Record:
    """A walk from a floor and a walker on, as far as it has been walked.

    It keeps the walker and the number of painted squares behind each number of steps, and for each place
    its colours, each with the number of steps behind which it came there.
    """

    def __init__(self, table, floor, walker):
        self.stroll = Stroll(table, floor, walker)
        self.walkers = [walker]
        self.counts = [len(floor)]
        self.colours = {(x, y): [(0, colour)] for x, y, colour in floor}

    def length(self):
        """Return how many steps have been walked."""
        return len(self.walkers) - 1

    def lasts(self, step):
        """Walk on up to so many steps, if need be, and tell whether there are so many."""
        while self.length() < step:
            told = self.stroll.go(1)
            if not told:
                return False
            walker, _, paint = told[0]
            self.walkers.append(self.stroll.walker)
            self.counts.append(len(self.stroll.painted))
            self.colours.setdefault(walker[:2], []).append((self.length(), paint))
        return True

    def walker_behind(self, step):
        """Return the walker behind so many of the steps."""
        return self.walkers[step]

    def painted_behind(self, step):
        """Return how many squares are painted behind so many of the steps."""
        return self.counts[step]

    def colour_behind(self, step, place):
        """Return the colour of a place behind so many of the steps."""
        for since, colour in reversed(self.colours.get(place, [])):
            if since <= step:
                return colour
        return 0

    def floor_behind(self, step):
        """Return the floor behind so many of the steps."""
        colours = {place: self.colour_behind(step, place) for place in self.colours}
        return floor_of({place: colours[place] for place in colours if colours[place] > 0})
