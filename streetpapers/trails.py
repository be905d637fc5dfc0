"""Trails: walks that are kept, and their texts."""

from streetpapers.checks import check_number, check_place, check_text, is_place, is_whole
from streetpapers.errors import BadNumber, InvalidText, Stopped, TooMany
from streetpapers.floors import moved, read_floor, write_floor
from streetpapers.notes import read_walker, whole_of, write_walker
from streetpapers.records import Record
from streetpapers.tables import check_table
from streetpapers.walks import check_stand

MOST_KEPT = 20000
WORDS_OF_TEXT = 8


class Trail:
    """A walk that is kept, no steps at first."""

    def __init__(self, table, floor, walker):
        check_stand(table, floor, walker)
        self.table = table
        self.floor = floor
        self.walker = walker
        self.record = Record(table, floor, walker)

    def go_on(self, many):
        """Keep so many steps more, or those that there are ahead of an error."""
        check_number(many, 0, MOST_KEPT)
        if self.length() + many > MOST_KEPT:
            raise BadNumber("no more than 20000 steps are kept")
        if not self.record.lasts(self.length() + many):
            raise Stopped("the walk has stopped")

    def length(self):
        """Return how many steps are kept."""
        return self.record.length()

    def walker_at(self, step):
        """Return the walker behind so many of the steps."""
        check_number(step, 0, self.length())
        return self.record.walker_behind(step)

    def floor_at(self, step):
        """Return the floor behind so many of the steps."""
        check_number(step, 0, self.length())
        return self.record.floor_behind(step)

    def back_to(self, step):
        """Forget all behind so many of the steps."""
        check_number(step, 0, self.length())
        self.record = Record(self.table, self.floor, self.walker)
        self.record.lasts(step)

    def visits(self, place):
        """Return the numbers of steps behind which the walker stands on a place."""
        check_place(place)
        return tuple([step for step, walker in enumerate(self.record.walkers) if walker[:2] == place])

    def trodden(self):
        """Return all places on which the walker stands, each with how often."""
        counts = {}
        for walker in self.record.walkers:
            counts[walker[:2]] = counts.get(walker[:2], 0) + 1
        return tuple(sorted([(place, counts[place]) for place in counts]))

    def write(self):
        """Return the text of the trail."""
        return _trail_text(self.length(), self.floor, self.walker)


def read_trail(table, text):
    """Return the trail that a text tells."""
    check_table(table)
    check_text(text)
    words = text.split(" ")
    if len(words) != WORDS_OF_TEXT:
        raise InvalidText(0)
    length, x, y = [whole_of(word) for word in (words[0], words[5], words[6])]
    if not is_whole(length, 0, MOST_KEPT) or not is_place((x, y)):
        raise InvalidText(0)
    floor = moved(read_floor(words[7]), (x, y))
    walker = read_walker(" ".join(words[1:5]))
    trail = Trail(table, floor, walker)
    if not _is_just_so(text, length, floor, walker):
        raise InvalidText(0)
    trail.go_on(length)
    return trail


def _trail_text(length, floor, walker):
    text, (x, y) = write_floor(floor)
    return f"{length} {write_walker(walker)} {x} {y} {text}"


def _is_just_so(text, length, floor, walker):
    try:
        return text == _trail_text(length, floor, walker)
    except TooMany:
        # A floor's text may have one row more than are ever written.
        return False
