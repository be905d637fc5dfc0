"""Sessions: a walk that is looked at and changed, and changes taken back."""

from streetpapers.checks import FAR, check_number, check_place
from streetpapers.errors import BadNumber, NoPaper, NothingToUndo, Stopped
from streetpapers.finders import found_paper
from streetpapers.floors import check_floor, floor_of, paint_square, painted_places
from streetpapers.papers import Course
from streetpapers.records import Record
from streetpapers.tables import check_table
from streetpapers.walks import MOST_STEPS, Stroll, check_walker


class Session:
    """A walk that is looked at and changed.

    What it shows is a view: the floor and the walker of the last change, the paper of the walk from there
    on, or None, and how many steps lie behind the change. All views shown before, and all taken back, are kept.
    """

    def __init__(self, table):
        check_table(table)
        self.table = table
        self.view = ((), (0, 0, 0, 0), None, 0)
        self.record = Record(table, (), (0, 0, 0, 0))
        self.course = None
        self.before = []
        self.taken_back = []

    def walker(self):
        """Return the walker as it is now."""
        return self._tale(self.steps()).walker_behind(self.steps())

    def colour(self, place):
        """Return the colour of a place as it is now."""
        check_place(place)
        return self._tale(self.steps()).colour_behind(self.steps(), place)

    def painted(self):
        """Return how many squares are painted now."""
        return self._tale(self.steps()).painted_behind(self.steps())

    def steps(self):
        """Return how many steps lie behind the last change."""
        return self.view[3]

    def floor(self):
        """Return the floor as it is now, if it lies near enough to be walked to."""
        if self.steps() > MOST_STEPS:
            raise NoPaper("the floor of so many steps is not told")
        self.record.lasts(self.steps())
        return self.record.floor_behind(self.steps())

    def put(self, place, colour):
        """Make a square have a colour, and begin from there."""
        check_place(place)
        check_number(colour, 0, len(self.table[0]) - 1)
        painted = painted_places(self.floor())
        paint_square(painted, place, colour)
        self._change((floor_of(painted), self.walker(), None, 0))

    def lay(self, floor):
        """Take another floor, and begin from there."""
        check_floor(floor, len(self.table[0]))
        self._change((floor, self.walker(), None, 0))

    def stand(self, walker):
        """Take another walker, and begin from there."""
        check_walker(walker, len(self.table))
        self._change((self.floor(), walker, None, 0))

    def know(self, steps, most):
        """Return a paper of the walk from the last change on, and hold it, or None if none is found."""
        floor, walker, _, done = self.view
        paper = found_paper(self.table, floor, walker, steps, most)
        if paper is not None:
            self._change((floor, walker, paper, done))
        return paper

    def go(self, many):
        """Go on by so many steps."""
        check_number(many, 0, FAR)
        floor, walker, paper, done = self.view
        if done + many > FAR:
            raise BadNumber("no more than 10 ** 60 steps are gone")
        if paper is None and done + many > MOST_STEPS:
            raise NoPaper("so many steps are not gone without a paper")
        if not self._tale(done).lasts(done + many):
            raise Stopped("the walk has stopped")
        self._change((floor, walker, paper, done + many))

    def undo(self):
        """Take the last change back."""
        if not self.before:
            raise NothingToUndo("nothing is left to be taken back")
        self.taken_back.append(self.view)
        self._show(self.before.pop())

    def redo(self):
        """Do again what was taken back last."""
        if not self.taken_back:
            raise NothingToUndo("nothing is left to be done again")
        self.before.append(self.view)
        self._show(self.taken_back.pop())

    def _tale(self, step):
        """Return what tells of the walk up to a step that is known to be there: its paper's course, or its record."""
        if self.course is not None:
            return self.course
        self.record.lasts(step)
        return self.record

    def _change(self, view):
        self.before.append(self.view)
        self.taken_back = []
        self._show(view)

    def _show(self, view):
        floor, walker, paper, _ = view
        if (floor, walker) != self.view[:2]:
            self.record = Record(self.table, floor, walker)
        if (floor, walker, paper) != self.view[:3]:
            self.course = None if paper is None else Course(Stroll(self.table, floor, walker), paper)
        self.view = view
