"""Point 17: sessions."""

import unittest

from plain import ANT, FAR, HALTING, PAINTER, STRAIGHT, TRIPLE, dice_of, plain_stands, some_floor, some_table
from streetpapers.errors import (BadFloor, BadNumber, BadPlace, BadTable, BadWalker, NoPaper, NothingToUndo, Stopped,
                                 TooMany, WalkError)
from streetpapers.finders import find_paper
from streetpapers.papers import colour_at, painted_at, walker_at
from streetpapers.sessions import Session

EAST = (0, 0, 1, 0)
NO_NUMBERS = (True, False, None, "1", (1,), [], {}, -1, 10 ** 5000, -10 ** 5000)
NO_PLACES = (None, 0, True, "a", (), (0,), (0, 0, 0), [0, 0], (0, True), (FAR + 1, 0), (0, -FAR - 1))
# Three steps to a painted square, at which it stops.
THREE = ((3, 0, 1),)


def seen(session):
    """All that a session tells of itself."""
    around = [session.colour((x, y)) for x in range(-3, 4) for y in range(-3, 4)]
    walker, painted = session.walker(), session.painted()
    floor = session.floor() if session.steps() <= 100000 else None
    return (walker, painted, session.steps(), floor, around)


def begun(table, floor, walker):
    session = Session(table)
    session.lay(floor)
    session.stand(walker)
    return session


class SessionCase(unittest.TestCase):
    def refused(self, session, error, method, *values):
        """Hold a method to an error that changes nothing, neither what lies before nor what was taken back."""
        before = seen(session)
        with self.assertRaises(error) as caught:
            getattr(session, method)(*values)
        self.assertIs(type(caught.exception), error)
        self.assertEqual(seen(session), before)
        return caught.exception


class LookingTest(SessionCase):
    def test_a_new_session(self):
        session = Session(ANT)
        self.assertEqual(seen(session), ((0, 0, 0, 0), 0, 0, (), [0] * 49))
        self.refused(session, NothingToUndo, "undo")
        self.refused(session, NothingToUndo, "redo")
        for table in (None, (), "1r0 0l0", [ANT[0]], (((1, 1, 0),),)):
            with self.assertRaises(BadTable):
                Session(table)

    def test_near_by_against_plain_walks(self):
        dice = dice_of(50)
        for _ in range(40):
            table = some_table(dice, 2, 3, 0)
            floor = some_floor(dice, 3, 3, 8)
            session = begun(table, floor, (1, -1, 2, 1))
            stands = plain_stands(table, floor, (1, -1, 2, 1), 60)
            while session.steps() < 60:
                self.assertIsNone(session.go(min(60 - session.steps(), dice.randrange(20))))
                squares, walker, _ = stands[session.steps()]
                colours = {square[:2]: square[2] for square in squares}
                around = [colours.get((x, y), 0) for x in range(-3, 4) for y in range(-3, 4)]
                self.assertEqual(seen(session), (walker, len(squares), session.steps(), squares, around))

    def test_far_on_with_a_paper(self):
        start = ((), (0, 0, 0, 0))
        session = Session(TRIPLE)
        paper = session.know(500, 50)
        self.assertEqual(paper, find_paper(TRIPLE, *start, 500, 50))
        gone = 0
        for many in (0, 1, 38, 500, 10 ** 5, 10 ** 20 + 7, 10 ** 59):
            session.go(many)
            gone += many
            self.assertEqual(session.steps(), gone)
            self.assertEqual(session.walker(), walker_at(TRIPLE, *start, paper, gone))
            self.assertEqual(session.painted(), painted_at(TRIPLE, *start, paper, gone))
            x, y = session.walker()[:2]
            for place in [(0, 0), (1, 1), (-1, -2), (x, y), (x - 1, y - 1), (x, y - 1), (x - 2, y), (x // 2, y // 2)]:
                self.assertEqual(session.colour(place), colour_at(TRIPLE, *start, paper, gone, place))

    def test_rounds_and_stops_with_a_paper(self):
        session = Session((((1, 1, 0), (0, 1, 0)),))
        self.assertEqual(session.know(64, 1)[::2], ("round", 8))
        session.go(FAR - 4)
        self.assertEqual((session.walker(), session.painted(), session.colour((1, 1))), ((0, 0, 0, 0), 4, 1))
        session = begun(HALTING, THREE, EAST)
        self.assertEqual(session.know(10, 1), ("stops", 3))
        session.go(2)
        self.assertEqual((session.walker(), session.painted()), ((2, 0, 1, 0), 1))
        session.go(1)
        self.assertEqual((session.walker(), session.floor()), ((3, 0, 1, 0), THREE))

    def test_places(self):
        session = Session(ANT)
        for place in NO_PLACES:
            self.refused(session, BadPlace, "colour", place)
        self.assertEqual([session.colour((FAR, -FAR)), session.colour((-FAR, FAR))], [0, 0])

    def test_the_floor_at_100000_steps_and_beyond(self):
        session = begun(STRAIGHT, THREE, (0, 1, 1, 0))
        session.go(100000)
        self.assertEqual((session.floor(), session.walker()), (THREE, (100000, 1, 1, 0)))
        self.assertEqual(session.know(10, 1), ("street", 0, 1))
        self.assertEqual(session.floor(), THREE)
        session.go(1)
        self.refused(session, NoPaper, "floor")
        self.assertEqual((session.walker(), session.colour((3, 0)), session.painted()), ((100001, 1, 1, 0), 1, 1))

    def test_the_floor_of_too_many_painted_squares(self):
        session = begun(PAINTER, (), EAST)
        session.know(10, 1)
        session.go(4000)
        self.assertEqual(len(session.floor()), 4000)
        session.go(1)
        self.assertEqual((session.painted(), session.walker()), (4001, (4001, 0, 1, 0)))
        for method, values in [("floor", ()), ("put", ((0, 0), 0)), ("stand", (EAST,))]:
            with self.assertRaises(TooMany) as caught:
                getattr(session, method)(*values)
            self.assertEqual(caught.exception.most, 4000)
        self.assertEqual(session.steps(), 4001)
        session.lay(())
        self.assertEqual(seen(session)[:4], ((4001, 0, 1, 0), 0, 0, ()))


class PutLayStandTest(SessionCase):
    def test_put(self):
        session = Session(TRIPLE)
        self.assertIsNone(session.put((2, 1), 2))
        session.put((2, -1), 1)
        session.put((2, 1), 1)
        session.put((FAR, -FAR), 2)
        self.assertEqual(session.floor(), ((2, -1, 1), (2, 1, 1), (FAR, -FAR, 2)))
        session.put((2, 1), 0)
        session.put((0, 0), 0)
        self.assertEqual(session.floor(), ((2, -1, 1), (FAR, -FAR, 2)))
        self.assertEqual((session.painted(), session.colour((2, -1)), session.colour((2, 1))), (2, 1, 0))

    def test_put_goes_on_from_here(self):
        session = Session(ANT)
        session.go(5)
        squares, walker, _ = plain_stands(ANT, (), (0, 0, 0, 0), 5)[5]
        session.put((-1, 0), 1)
        squares = tuple(sorted((*squares, (-1, 0, 1))))
        self.assertEqual(seen(session)[:4], (walker, len(squares), 0, squares))
        session.go(30)
        self.assertEqual((session.floor(), session.walker()), plain_stands(ANT, squares, walker, 30)[30][:2])

    def test_lay(self):
        session = Session(ANT)
        session.go(5)
        walker = session.walker()
        self.assertIsNone(session.lay(((7, 7, 1),)))
        self.assertEqual(seen(session)[:4], (walker, 1, 0, ((7, 7, 1),)))
        session.go(30)
        self.assertEqual(session.walker(), plain_stands(ANT, ((7, 7, 1),), walker, 30)[30][1])

    def test_stand(self):
        session = Session(ANT)
        session.go(5)
        floor = session.floor()
        self.assertIsNone(session.stand((9, 9, 3, 0)))
        self.assertEqual(seen(session)[:4], ((9, 9, 3, 0), len(floor), 0, floor))
        session.go(30)
        self.assertEqual(session.floor(), plain_stands(ANT, floor, (9, 9, 3, 0), 30)[30][0])

    def test_wrong_arguments(self):
        for session in (Session(ANT), begun(ANT, THREE, EAST)):
            for place in NO_PLACES:
                self.refused(session, BadPlace, "put", place, None)
            for colour in (*NO_NUMBERS, 2, 5):
                self.refused(session, BadNumber, "put", (0, 0), colour)
            for floor, index in [(None, None), ([], None), ("", None), (((0, 0, 2),), 0), (((0, 0, 1), (0, 0, 1)), 1),
                                 (((0, 0, True),), 0), (((FAR + 1, 0, 1),), 0)]:
                self.assertEqual(self.refused(session, BadFloor, "lay", floor).index, index)
            for walker in (None, 0, (), [0, 0, 0, 0], (0, 0, 0, 1), (0, 0, 4, 0), (0, 0, True, 0), (FAR + 1, 0, 0, 0)):
                self.refused(session, BadWalker, "stand", walker)
        Session(TRIPLE).put((0, 0), 2)

    def test_the_4001st_painted_square(self):
        session = Session(TRIPLE)
        session.lay(tuple((x, 50, 1) for x in range(3999)))
        session.put((0, 0), 1)
        error = self.refused(session, TooMany, "put", (1, 0), 1)
        self.assertEqual(error.most, 4000)
        session.put((0, 0), 2)
        session.put((1, 0), 0)
        session.put((0, 0), 0)
        session.put((1, 0), 1)
        self.assertEqual(session.painted(), 4000)

    def test_behind_100000_steps_and_beyond(self):
        for method, values, behind in [("put", ((9, 9), 1), ((100000, 0, 1, 0), 1)), ("stand", (EAST,), (EAST, 0))]:
            session = begun(STRAIGHT, (), EAST)
            session.know(10, 1)
            session.go(100001)
            with self.assertRaises(NoPaper):
                getattr(session, method)(*values)
            # Errors of the arguments come ahead of that.
            with self.assertRaises(BadPlace if method == "put" else BadWalker):
                getattr(session, method)(*[None for _ in values])
            self.assertEqual(session.steps(), 100001)
            session.undo()
            session.go(100000)
            getattr(session, method)(*values)
            self.assertEqual((session.walker(), session.painted()), behind)
            self.assertEqual(session.steps(), 0)

    def test_lay_far_on(self):
        session = begun(STRAIGHT, (), (FAR, 0, 1, 0))
        session.know(10, 1)
        session.go(FAR)
        session.lay(THREE)
        self.assertEqual((session.walker(), session.steps(), session.floor()), ((2 * FAR, 0, 1, 0), 0, THREE))
        # The walk of a walker beyond all places has its papers, too.
        self.assertEqual(session.know(10, 1), ("street", 0, 1))
        session.go(FAR)
        self.assertEqual(session.walker(), (3 * FAR, 0, 1, 0))

    def test_changes_end_the_paper(self):
        for method, values in [("put", ((0, 1), 1)), ("lay", ((),)), ("stand", ((0, 0, 1, 0),)), ("put", ((0, 1), 0))]:
            session = begun(STRAIGHT, (), EAST)
            session.know(10, 1)
            session.go(5)
            getattr(session, method)(*values)
            with self.assertRaises(NoPaper):
                session.go(100001)
            session.go(100000)
            self.assertEqual(session.steps(), 100000)


class KnowTest(SessionCase):
    def test_one_that_finds_none(self):
        session = Session(ANT)
        session.go(7)
        before = seen(session)
        self.assertIsNone(session.know(200, 20))
        self.assertEqual(seen(session), before)
        self.refused(session, NoPaper, "go", 100001 - 7)
        # It is none of the changes: the last one is the one ahead of it.
        session.undo()
        self.assertEqual(session.steps(), 0)
        self.assertIsNone(session.know(200, 20))
        session.redo()
        self.assertEqual(session.steps(), 7)

    def test_one_that_finds_none_leaves_the_paper(self):
        session = Session(TRIPLE)
        paper = session.know(500, 50)
        session.go(10 ** 30)
        self.assertIsNone(session.know(10, 1))
        session.go(10 ** 30)
        self.assertEqual(session.walker(), walker_at(TRIPLE, (), (0, 0, 0, 0), paper, 2 * 10 ** 30))

    def test_it_is_of_the_last_change(self):
        session = Session(TRIPLE)
        session.go(1000)
        self.assertEqual(session.know(500, 50), find_paper(TRIPLE, (), (0, 0, 0, 0), 500, 50))
        self.assertEqual(session.steps(), 1000)
        session.put((0, 0), 1)
        floor, walker = session.floor(), session.walker()
        session.go(77)
        paper = session.know(500, 50)
        self.assertEqual(paper, find_paper(TRIPLE, floor, walker, 500, 50))
        session.go(10 ** 40)
        self.assertEqual(session.walker(), walker_at(TRIPLE, floor, walker, paper, 77 + 10 ** 40))
        self.assertEqual(session.painted(), painted_at(TRIPLE, floor, walker, paper, 77 + 10 ** 40))

    def test_limits(self):
        session = begun(STRAIGHT, (), EAST)
        for steps in (*NO_NUMBERS, 0, 30001):
            self.refused(session, BadNumber, "know", steps, None)
        for most in (*NO_NUMBERS, 0, 2001):
            self.refused(session, BadNumber, "know", 5, most)
        self.assertIsNone(session.know(1, 2000))
        self.assertEqual(session.know(30000, 2000), ("street", 0, 1))

    def test_too_many(self):
        session = begun(PAINTER, (), EAST)
        self.assertEqual(self.refused(session, TooMany, "know", 4001, 1).most, 4000)
        self.refused(session, BadNumber, "know", 4001, 0)
        self.assertEqual(session.know(4000, 1), ("street", 0, 1))


class GoTest(SessionCase):
    def test_up_to_10_to_the_60(self):
        session = begun(STRAIGHT, (), EAST)
        session.know(10, 1)
        session.go(1)
        self.refused(session, BadNumber, "go", FAR)
        session.go(FAR - 1)
        self.assertEqual((session.steps(), session.walker()), (FAR, (FAR, 0, 1, 0)))
        self.refused(session, BadNumber, "go", 1)
        session.go(0)
        session.undo()
        session.undo()
        session.go(FAR - 1)
        self.assertEqual(session.steps(), FAR)

    def test_wrong_numbers(self):
        for session in (begun(STRAIGHT, (), EAST), begun(HALTING, ((0, 0, 1),), EAST)):
            for many in (*NO_NUMBERS, FAR + 1):
                self.refused(session, BadNumber, "go", many)
        session = begun(STRAIGHT, (), EAST)
        session.go(1)
        # Ahead of the error that there is no paper.
        self.refused(session, BadNumber, "go", FAR)
        self.refused(session, NoPaper, "go", FAR - 1)

    def test_without_a_paper_up_to_100000(self):
        session = begun(STRAIGHT, (), EAST)
        self.refused(session, NoPaper, "go", 100001)
        session.go(60000)
        self.refused(session, NoPaper, "go", 40001)
        session.go(40000)
        self.refused(session, NoPaper, "go", 1)
        self.assertEqual((session.steps(), session.walker()), (100000, (100000, 0, 1, 0)))
        session.stand(session.walker())
        session.go(100000)
        self.assertEqual(session.walker(), (200000, 0, 1, 0))

    def test_a_stop(self):
        for known in (False, True):
            session = begun(HALTING, THREE, EAST)
            if known:
                session.know(10, 1)
            for many in (4, 5, 100000, FAR if known else 99999):
                self.refused(session, Stopped, "go", many)
            session.go(2)
            self.refused(session, Stopped, "go", 2)
            session.go(1)
            self.refused(session, Stopped, "go", 1)
            session.go(0)
            self.assertEqual((session.steps(), session.walker()), (3, (3, 0, 1, 0)))
            session.put((3, 0), 0)
            session.go(5)
            self.assertEqual(session.walker(), (8, 0, 1, 0))

    def test_no_paper_comes_ahead_of_the_stop(self):
        session = begun(HALTING, THREE, EAST)
        self.refused(session, NoPaper, "go", 100001)
        self.refused(session, Stopped, "go", 100000)

    def test_too_many(self):
        session = begun(PAINTER, (), EAST)
        self.assertEqual(self.refused(session, TooMany, "go", 4001).most, 4000)
        session.go(3999)
        self.refused(session, TooMany, "go", 2)
        session.go(1)
        self.refused(session, TooMany, "go", 96000)
        self.refused(session, NoPaper, "go", 96001)
        self.assertEqual(session.painted(), 4000)
        session.know(10, 1)
        session.go(10 ** 30)
        self.assertEqual(session.painted(), 4000 + 10 ** 30)


class UndoTest(SessionCase):
    def test_each_kind_of_change(self):
        session = begun(TRIPLE, ((1, 1, 1),), (0, 0, 2, 0))
        changes = [("put", (2, 2), 2), ("go", 9), ("lay", ((0, 5, 1),)), ("go", 0), ("stand", (4, 4, 1, 0)), ("go", 60),
                   ("know", 2000, 60), ("go", 10 ** 40), ("lay", ((0, 3, 2),)), ("put", (0, 0), 0)]
        shown = [seen(session)]
        for method, *values in changes:
            getattr(session, method)(*values)
            shown.append(seen(session))
        for _ in range(2):
            for at in range(len(changes) - 1, -1, -1):
                self.assertIsNone(session.undo())
                self.assertEqual(seen(session), shown[at])
            for at in range(1, len(shown)):
                self.assertIsNone(session.redo())
                self.assertEqual(seen(session), shown[at])
            self.refused(session, NothingToUndo, "redo")
        # Two changes lie ahead of these, of a new session.
        for _ in range(len(changes) + 2):
            session.undo()
        self.refused(session, NothingToUndo, "undo")
        self.assertEqual(seen(session)[:4], ((0, 0, 0, 0), 0, 0, ()))

    def test_whatever_is_asked_for_first(self):
        for method, values in [("walker", ()), ("colour", ((1, 0),)), ("painted", ()), ("floor", ()), ("steps", ())]:
            session = begun(ANT, THREE, EAST)
            session.go(21)
            told = getattr(session, method)(*values)
            session.lay(())
            session.undo()
            self.assertEqual(getattr(session, method)(*values), told)
            session.redo()
            session.undo()
            session.go(30)
            self.assertEqual(session.walker(), plain_stands(ANT, THREE, EAST, 51)[51][1])

    def test_a_paper_is_taken_back(self):
        session = begun(STRAIGHT, (), EAST)
        session.know(10, 1)
        session.undo()
        self.refused(session, NoPaper, "go", 100001)
        session.redo()
        session.go(100001)
        # What was found ahead of it is held again.
        session = begun(STRAIGHT, (), EAST)
        session.know(10, 1)
        session.know(20, 2)
        session.undo()
        session.go(FAR)
        session.undo()
        session.undo()
        self.refused(session, NoPaper, "go", FAR)

    def test_a_paper_comes_back_with_its_walk(self):
        session = begun(TRIPLE, (), (0, 0, 0, 0))
        paper = session.know(500, 50)
        session.go(10 ** 30)
        session.lay(())
        self.refused(session, NoPaper, "go", 10 ** 30)
        session.undo()
        session.go(10 ** 30)
        self.assertEqual(session.walker(), walker_at(TRIPLE, (), (0, 0, 0, 0), paper, 2 * 10 ** 30))

    def test_changes_in_between(self):
        for method, values in [("put", ((9, 9), 0)), ("lay", ((),)), ("stand", (EAST,)), ("go", (0,)), ("know", (9, 1))]:
            session = begun(STRAIGHT, (), EAST)
            session.go(3)
            session.go(4)
            session.undo()
            session.undo()
            getattr(session, method)(*values)
            self.refused(session, NothingToUndo, "redo")
            session.undo()
            session.redo()
            self.refused(session, NothingToUndo, "redo")

    def test_what_does_not_come_between(self):
        session = begun(HALTING, THREE, EAST)
        session.go(3)
        session.undo()
        for method, values, error in [
            ("go", (4,), Stopped), ("go", (-1,), BadNumber), ("go", (100001,), NoPaper), ("put", (None, 0), BadPlace),
            ("put", ((0, 0), 2), BadNumber), ("lay", (None,), BadFloor), ("stand", (None,), BadWalker),
            ("know", (0, 1), BadNumber), ("colour", (None,), BadPlace),
        ]:
            self.refused(session, error, method, *values)
        self.assertIsNone(session.know(2, 1))
        seen(session)
        session.redo()
        self.assertEqual(session.steps(), 3)

    def test_all_by_chance(self):
        dice = dice_of(51)
        for _ in range(60):
            table = some_table(dice, 2, 3, dice.choice([0, 0, 8]))
            session, model = Session(table), Model(table)
            for _ in range(40):
                method, *values = some_change(dice)
                try:
                    getattr(session, method)(*values)
                except WalkError as error:
                    self.assertIn(type(error), (Stopped, NothingToUndo))
                    self.assertFalse(model.change(method, values), (method, values))
                else:
                    self.assertTrue(model.change(method, values), (method, values))
                floor, walker, steps = model.seen()
                self.assertEqual((session.floor(), session.walker(), session.steps()), (floor, walker, steps))
                self.assertEqual(session.painted(), len(floor))
                colours = {square[:2]: square[2] for square in floor}
                for place in [(0, 0), walker[:2], (1, -1), (-2, 1)]:
                    self.assertEqual(session.colour(place), colours.get(place, 0))


def some_change(dice):
    return dice.choice([
        ("put", (dice.randrange(-2, 3), dice.randrange(-2, 3)), dice.randrange(3)), ("lay", some_floor(dice, 3, 3, 5)),
        ("stand", (dice.randrange(-2, 3), dice.randrange(-2, 3), dice.randrange(4), dice.randrange(2))),
        ("go", dice.randrange(12)), ("go", dice.randrange(12)), ("know", dice.choice([5, 40, 90]), 9),
        ("undo",), ("undo",), ("undo",), ("redo",), ("redo",)])


class Model:
    """A session in the plainest way: its views are (floor, walker, steps, paper), walked anew each time."""

    def __init__(self, table):
        self.table = table
        self.views = [((), (0, 0, 0, 0), 0, None)]
        self.at = 0

    def seen(self):
        floor, walker, steps, _ = self.views[self.at]
        stands = plain_stands(self.table, floor, walker, steps)
        return (*stands[steps][:2], steps)

    def change(self, method, values):
        """Do a change, and tell whether it could be done."""
        if method in ("undo", "redo"):
            at = self.at + {"undo": -1, "redo": 1}[method]
            if 0 <= at < len(self.views):
                self.at = at
                return True
            return False
        view = getattr(self, method)(*values)
        if view is not None and view != ():
            self.views = [*self.views[:self.at + 1], view]
            self.at += 1
        return view is not None

    def put(self, place, colour):
        floor, walker, _ = self.seen()
        kept = [square for square in floor if square[:2] != place]
        return (tuple(sorted([*kept, (*place, colour)] if colour else kept)), walker, 0, None)

    def lay(self, floor):
        return (floor, self.seen()[1], 0, None)

    def stand(self, walker):
        return (self.seen()[0], walker, 0, None)

    def know(self, steps, most):
        floor, walker, done, _ = self.views[self.at]
        paper = find_paper(self.table, floor, walker, steps, most)
        return () if paper is None else (floor, walker, done, paper)

    def go(self, many):
        floor, walker, steps, paper = self.views[self.at]
        stands = plain_stands(self.table, floor, walker, steps + many)
        return (floor, walker, steps + many, paper) if len(stands) > steps + many else None


if __name__ == "__main__":
    unittest.main()
