"""Point 1: which error is raised, whatever is passed, and that no argument is modified."""

import copy
import unittest

from plain import ANT, FAR, PAINTER, STRAIGHT
from streetpapers import (backs, catalogue, census, corners, desk, errors, finders, firsts, floors, grounds, kin, likes,
                          mirrors, notes, papers, planners, plans, rings, sessions, tables, tapes, teams, trails, walks)

JUNK = (
    0, 1, -1, 3, 4, 5, 2000, 2001, 30000, 30001, 100000, 100001, FAR, FAR + 1, -FAR - 1, 10 ** 5000, -10 ** 5000,
    "", "a", "stops", "1r0 0l0", "x", True, False, None, (), [], {}, (1, 2), (1, True), (True, False), (False, 0),
    (FAR, -FAR), (FAR + 1, 0), (0, -FAR - 1), [0, 0], (0, 0, 1), ((0, 0, 1),), [(0, 0, 1)], ((0, 0, True),),
    ((0, 0, 0),), ((0, 0, 2),), ((0, 0, 6),), ([0, 0, 1],), ((0, 0, 1), (0, 0, 1)), ((1, 0, 1), (0, 0, 1)),
    ((True, 0, 1),), ((0, 0),), ((FAR + 1, 0, 1),), (None,), ((None,),), {(0, 0): 1}, {"a": [1, {}]},
    (0, 0, 0, 0), [0, 0, 0, 0], (0, 0, 4, 0), (0, 0, -1, 0), (0, 0, 0, 1), (0, 0, 0, -1), (0, 0, True, 0),
    (0, 0, 0, False), (0, 0, 0), (0, 0, 0, 0, 0), ("0", 0, 0, 0), (FAR + 1, 0, 0, 0), ((0, 0), 0, 0),
    ("stops", 0), ("stops", True), ("stops", -1), ("stops", 100001), ("stops",), ("stops", 1, 1), ["stops", 0],
    ("round", 0, 8), ("round", 0), ("round", 0, 0), ("round", 0, 2001), ("street", 0, 1), ("street", 100001, 1),
    ("street", 0, True), ("street", None, 1), ("walks", 0, 1), (["street"], 0, 1), ("street", 0, 1, 1),
    (((1, 1, 0), (0, 3, 0)),), [((1, 1, 0), (0, 3, 0))], (((1, 1, 0),),), ((None, None),), ((None,),),
    (((1, 1, 0), (2, 3, 0)),), (((1, 4, 0), (0, 3, 0)),), (((1, 1, 1), (0, 3, 0)),), (((1, True, 0), None),),
    (((1, 1), None),), (([1, 1, 0], None),), ([None, None],), ((None, None), (None, None, None)),
    ((None,) * 7,), ((None, None),) * 11, ((None, None),) * 10,
    ((0, 0, 0, 0),), ((0, 0, 0, 0),) * 4, ((0, 0, 0, 0),) * 5, [(0, 0, 0, 0)], ((0, 0, 0, 0), (0, 0, 0, 1)),
    ((0, 0, 0, 0), None), ((0, 0, True, 0),), (("street", 0, 1),), (("street", 0, 1),) * 2, [("street", 0, 1)],
    (("street", 0, 1), ("round", 0, 1)), (("stops", 0),), ("steps",) * 1001, ("steps",), (0, 0, 0, 9), (0, 0, 0, 10),
    ((0,),), ((0,) * 6,) * 6, ((0,),) * 7, ((0,) * 7,), ((0, 1), (1,)), ((2,),), ((True,),), ([0],), [(0,)], ((),),
    (((1, 1, 0), None),), (((1, -1, 0), None),), (((1, 0, 0), None),), (((2, 1, 0), None),), (((1, 1, 1), None),),
    (((1, True, 0), None),), [((1, 1, 0), None)], ((None, None),) * 5, ((None, None),) * 6, (0,) * 400, (0,) * 401,
    (0, 2), (0, -1), [0], (2, ()), (2, (("step",),)), (2, [("step",)]), (1, ()), (7, ()), (True, ()), (2, (("steps",),)),
    (2, (("paint", 2),)), (2, (("turn", 0),)), (2, (("turn", True),)), (2, ("step",)), (2, (("forever", ()),)), (2,),
    (2, (("if", 0, ()),)), (2, (("repeat", 9, ()),)), (2, (("while", 1, (("step",),)),)), (2, (("step",),) * 61), 6, 7,
)


def is_street(value):
    return type(value) is tuple and value == ("street", 0, 1) and bool not in map(type, value)


def whole(value, least, greatest):
    return type(value) is int and least <= value <= greatest


def place(value):
    return type(value) is tuple and len(value) == 2 and all(whole(part, -FAR, FAR) for part in value)


def table(value):
    if type(value) is not tuple or not 1 <= len(value) <= 10:
        return False
    if any(type(state) is not tuple or not 2 <= len(state) <= 6 for state in value):
        return False
    if len({len(state) for state in value}) != 1:
        return False
    for entry in [entry for state in value for entry in state]:
        if entry is not None:
            if type(entry) is not tuple or len(entry) != 3:
                return False
            limits = (len(value[0]) - 1, 3, len(value) - 1)
            if not all(whole(part, 0, limit) for part, limit in zip(entry, limits)):
                return False
    return True


def floor(colours):
    def allowed(value):
        if type(value) is not tuple or len(value) > 4000:
            return False
        for square in value:
            if type(square) is not tuple or len(square) != 3:
                return False
            if not place(square[:2]) or not whole(square[2], 1, colours - 1):
                return False
        places = [square[:2] for square in value]
        return places == sorted(places) and len(set(places)) == len(places)
    return allowed


def walker(value):
    return (type(value) is tuple and len(value) == 4 and place(value[:2]) and whole(value[2], 0, 3)
            and whole(value[3], 0, 0))


def of_any_table(value):
    return walker(value) or (type(value) is tuple and len(value) == 4 and walker((*value[:3], 0))
                             and whole(value[3], 0, 9))


def ground(value):
    return (type(value) is tuple and 1 <= len(value) <= 6 and all(type(row) is tuple for row in value)
            and len({len(row) for row in value}) == 1 and 1 <= len(value[0]) <= 6
            and all(whole(colour, 0, 1) for row in value for colour in row))


def machine(value):
    if type(value) is not tuple or not 1 <= len(value) <= 5 or any(type(rules) is not tuple for rules in value):
        return False
    if len({len(rules) for rules in value}) != 1 or not 2 <= len(value[0]) <= 6:
        return False
    return all(rule is None or (type(rule) is tuple and len(rule) == 3 and whole(rule[0], 0, len(value[0]) - 1)
                                and whole(rule[1], -1, 1) and rule[1] != 0 and whole(rule[2], 0, len(value) - 1))
               for rules in value for rule in rules)


def tape(value):
    return type(value) is tuple and len(value) <= 400 and all(whole(sign, 0, 1) for sign in value)


def plan(value):
    # Of the values below, only these are plans.
    good = [(2, ()), (2, (("step",),)), (2, (("forever", ()),)), (2, (("while", 1, (("step",),)),))]
    return type(value) is tuple and any(value == one and type(value[0]) is int for one in good)


def team(value):
    return type(value) is tuple and 1 <= len(value) <= 4 and all(walker(one) for one in value)


def papers_of_one(value):
    return type(value) is tuple and len(value) == 1 and is_street(value[0])


def any_paper(value):
    if type(value) is not tuple or len(value) not in (2, 3) or not whole(value[1], 0, 100000):
        return False
    kinds = ("stops",) if len(value) == 2 else ("round", "street")
    return type(value[0]) is str and value[0] in kinds and (len(value) == 2 or whole(value[2], 1, 2000))


def number(least, greatest):
    return (lambda value: whole(value, least, greatest), errors.BadNumber)


TABLE = (table, errors.BadTable)
FLOOR = (floor(2), errors.BadFloor)
ANY_FLOOR = (floor(6), errors.BadFloor)
WALKER = (walker, errors.BadWalker)
PLACE = (place, errors.BadPlace)
# On a blank floor STRAIGHT goes straight on: its papers are these streets.
PAPER = (is_street, errors.BadPaper)
TEXT = (lambda value: type(value) is str, errors.NotText)
STAND = [(STRAIGHT, TABLE), ((), FLOOR), ((0, 0, 1, 0), WALKER)]
STREET = [*STAND, (("street", 0, 1), PAPER)]
MANY = (3, number(0, 100000))
TEAM = [*STAND[:2], (((0, 0, 1, 0),), (team, errors.BadWalker))]
TEAM_PAPERS = [*TEAM, ((("street", 0, 1),), (papers_of_one, errors.BadPaper))]
SIDE = (5, number(1, 40))
COLOURS = (2, number(2, 4))
STEP = (FAR, number(0, FAR))
ANYWHERE = ((0, 0), PLACE)
GROUND_STAND = [STAND[0], (((0, 1), (0, 0)), (ground, errors.BadGround)), *STAND[1:]]
GROUND_STREET = [*GROUND_STAND, MANY, (5, number(1, 2000))]
MACHINE = ((((1, 1, 0), None),), (machine, errors.BadMachine))
TAPE_STAND = [MACHINE, ((0, 1), (tape, errors.BadTape)), (FAR, number(-FAR, FAR)), (0, number(0, 0))]
PLAN = ((2, (("step",),)), (plan, errors.BadPlan))
PLACED = [(value, (lambda value: whole(value, -FAR, FAR), errors.BadWalker)) for value in (FAR, -FAR)]

# Each function with, for each argument, a good value, what else is allowed for it, and its error.
FUNCTIONS = [
    (tables.write_table, [(ANT, TABLE)]),
    (tables.read_table, [("1r0 0l0", TEXT)]),
    (floors.moved, [(((0, 0, 5),), ANY_FLOOR), ((1, 2), PLACE)]),
    (floors.turned, [(((0, 0, 5),), ANY_FLOOR), (1, number(0, 3))]),
    (floors.box, [(((0, 0, 5),), ANY_FLOOR)]),
    (floors.write_floor, [(((0, 0, 5),), ANY_FLOOR)]),
    (floors.read_floor, [("a", TEXT)]),
    (walks.step, STAND),
    (walks.walk, [*STAND, MANY]),
    (backs.can_be_undone, [(ANT, TABLE)]),
    (backs.back, [(ANT, TABLE), ((), FLOOR), ((0, 0, 0, 0), WALKER), (0, number(0, 100000))]),
    (papers.shows_paper, [*STAND, (("street", 0, 1), (lambda value: True, None))]),
    (papers.walker_at, [*STREET, STEP]),
    (papers.painted_at, [*STREET, STEP]),
    (papers.colour_at, [*STREET, STEP, ANYWHERE]),
    (papers.move_of, STREET),
    (finders.find_paper, [*STAND, (9, number(1, 30000)), (3, number(1, 2000))]),
    (finders.soonest, STREET),
    (corners.colour_rounds, [(ANT, TABLE)]),
    (corners.never_bounded, [(ANT, TABLE)]),
    (corners.bound_stand, [(ANT, TABLE)]),
    (kin.asked, [*STAND, MANY]),
    (kin.walks_alike, [*STAND, MANY, (ANT, TABLE)]),
    (kin.kin_count, [*STAND, MANY]),
    (rings.ring_walk, [*STAND, SIDE, SIDE, MANY]),
    (rings.ring_life, [*STAND, SIDE, SIDE]),
    (teams.team_walk, [*TEAM, MANY]),
    (teams.never_cross, TEAM_PAPERS),
    (teams.team_at, [*TEAM_PAPERS, STEP]),
    (teams.team_painted_at, [*TEAM_PAPERS, STEP]),
    (teams.team_colour_at, [*TEAM_PAPERS, STEP, ANYWHERE]),
    (census.census, [COLOURS, (9, number(1, 4000)), (3, number(1, 200))]),
    (census.count_never_bounded, [COLOURS]),
    (notes.write_paper, [(("stops", 5), (any_paper, errors.BadPaper))]),
    (notes.write_walker, [((0, 0, 0, 9), (of_any_table, errors.BadWalker))]),
    (notes.read_paper, [("stops 5", TEXT)]),
    (notes.read_walker, [("0 0 0 0", TEXT)]),
    (trails.Trail, STAND),
    (trails.read_trail, [(ANT, TABLE), ("5 0 0 0 0 0 0 ", TEXT)]),
    (sessions.Session, [(ANT, TABLE)]),
    (desk.Desk, [(ANT, TABLE)]),
    (desk.run, [("1r0 0l0", TEXT), (("steps",), (lambda value: type(value) is tuple and len(value) <= 1000,
                                                  errors.NotText))]),
    (firsts.first_stood, [*STREET, ANYWHERE]),
    (firsts.times_stood, [*STREET, STEP, ANYWHERE]),
    (firsts.painted_box, [*STREET, STEP]),
    (likes.first_unlike, [*STREET, (((5, 5, 1),), FLOOR)]),
    (likes.what_matters, [*STREET, ANYWHERE, ((3, 3), PLACE)]),
    (grounds.ground_walk, [*GROUND_STAND, MANY]),
    (grounds.shows_ground_street, GROUND_STREET),
    (grounds.ground_walker_at, [*GROUND_STREET, STEP]),
    (mirrors.mirrored_table, [(ANT, TABLE)]),
    (mirrors.mirrored, [(((0, 0, 5),), ANY_FLOOR)]),
    (mirrors.mirrored_walker, [(ANT, TABLE), ((0, 0, 0, 0), WALKER)]),
    (mirrors.is_own_mirror, [(ANT, TABLE)]),
    (tapes.tape_run, [*TAPE_STAND, MANY]),
    (tapes.tape_by_walker, [*TAPE_STAND, MANY]),
    (tapes.tape_stand, TAPE_STAND),
    (tapes.walker_table, [MACHINE]),
    (catalogue.catalogue, [(ANT, TABLE), (2, number(1, 6)), (3, number(1, 6)), (9, number(1, 4000)), (3, number(1, 200))]),
    (plans.play_plan, [PLAN, ((), FLOOR), *PLACED, (3, (lambda value: whole(value, 0, 3), errors.BadWalker)), MANY]),
    (plans.table_of, [PLAN]),
    (plans.write_plan, [PLAN]),
    (planners.read_plan, [("colours 2", TEXT)]),
]


def straight_session():
    session = sessions.Session(STRAIGHT)
    session.go(5)
    return session


def straight_trail():
    trail = trails.Trail(STRAIGHT, (), (0, 0, 1, 0))
    trail.go_on(5)
    return trail


# Each method with what makes its object; what else is allowed, and the error, is told as for functions.
METHODS = [
    (straight_trail, "go_on", [(3, number(0, 20000))]),
    (straight_trail, "walker_at", [(5, number(0, 5))]),
    (straight_trail, "floor_at", [(0, number(0, 5))]),
    (straight_trail, "back_to", [(1, number(0, 5))]),
    (straight_trail, "visits", [ANYWHERE]),
    (straight_session, "colour", [ANYWHERE]),
    (straight_session, "put", [ANYWHERE, (1, number(0, 1))]),
    (straight_session, "lay", [(((0, 0, 1),), FLOOR)]),
    (straight_session, "stand", [((0, 0, 1, 0), WALKER)]),
    (straight_session, "know", [(9, number(1, 30000)), (3, number(1, 2000))]),
    (straight_session, "go", [(3, number(0, FAR))]),
    (lambda: desk.Desk(STRAIGHT), "ask", [("steps", TEXT)]),
]


class ArgumentsTest(unittest.TestCase):
    def refused(self, function, values, error):
        """Whether the call raises just this error and leaves its arguments alone."""
        before = copy.deepcopy(values)
        with self.assertRaises(errors.WalkError) as caught:
            function(*values)
        self.assertIs(type(caught.exception), error, (function.__name__, values))
        self.assertEqual(values, before)

    def test_good_values_are_taken(self):
        for function, wanted in FUNCTIONS:
            values = [good for good, _ in wanted]
            before = copy.deepcopy(values)
            function(*values)
            self.assertEqual(values, before)

    def test_each_wrong_value_has_its_error(self):
        for function, wanted in FUNCTIONS:
            for at, (_, (allowed, error)) in enumerate(wanted):
                for value in JUNK:
                    if not allowed(value):
                        values = [good for good, _ in wanted]
                        values[at] = value
                        self.refused(function, values, error)

    def test_the_leftmost_wrong_argument_counts(self):
        for function, wanted in FUNCTIONS:
            for at, (_, (allowed, error)) in enumerate(wanted):
                for value in JUNK[::3]:
                    if not allowed(value):
                        for later in (None, True, [], "x", -1):
                            values = [good for good, _ in wanted[:at]] + [value] + [later] * (len(wanted) - at - 1)
                            self.refused(function, values, error)

    def test_methods(self):
        for make, name, wanted in METHODS:
            values = [good for good, _ in wanted]
            getattr(make(), name)(*values)
            for at, (_, (allowed, error)) in enumerate(wanted):
                held = make()
                before = self.told_of(held)
                for value in JUNK:
                    if not allowed(value):
                        for later in (values[at + 1:], [None] * (len(wanted) - at - 1)):
                            self.refused(getattr(held, name), [*values[:at], value, *later], error)
                # What raises an error changes nothing.
                self.assertEqual(self.told_of(held), before)

    def told_of(self, held):
        if isinstance(held, trails.Trail):
            return (held.write(), held.length(), held.trodden())
        session = held.session if isinstance(held, desk.Desk) else held
        return (session.walker(), session.painted(), session.steps(), session.floor())

    def test_any_value_may_be_asked_for_as_a_paper(self):
        for value in JUNK:
            answer = papers.shows_paper(STRAIGHT, (), (0, 0, 1, 0), value)
            self.assertIs(answer, is_street(value), value)

    def test_too_many_comes_behind_the_errors_of_all_arguments(self):
        stand = (PAINTER, (), (0, 0, 1, 0))
        street = ("street", 4000, 1)
        self.refused(walks.walk, [*stand, 100001], errors.BadNumber)
        self.refused(walks.walk, [*stand, 100000], errors.TooMany)
        self.refused(papers.walker_at, [*stand, street, FAR + 1], errors.BadNumber)
        self.refused(papers.painted_at, [*stand, street, True], errors.BadNumber)
        self.refused(papers.colour_at, [*stand, street, -1, None], errors.BadNumber)
        self.refused(papers.colour_at, [*stand, street, 0, (0, FAR + 1)], errors.BadPlace)
        self.refused(papers.colour_at, [*stand, street, 0, (0, 0)], errors.TooMany)
        self.refused(papers.move_of, [*stand, street], errors.TooMany)
        self.refused(papers.shows_paper, [*stand, street], errors.TooMany)
        self.refused(finders.soonest, [*stand, street], errors.TooMany)
        self.refused(finders.find_paper, [*stand, 4001, 0], errors.BadNumber)
        self.refused(finders.find_paper, [*stand, 4001, 1], errors.TooMany)

    def test_a_paper_that_is_not_right_comes_ahead_of_the_step_and_the_place(self):
        stand = (STRAIGHT, (), (0, 0, 1, 0))
        for paper in (("round", 0, 1), ("stops", 3), ("street", 0, 0), None):
            self.refused(papers.walker_at, [*stand, paper, -1], errors.BadPaper)
            self.refused(papers.painted_at, [*stand, paper, None], errors.BadPaper)
            self.refused(papers.colour_at, [*stand, paper, FAR + 1, ()], errors.BadPaper)
            self.refused(papers.colour_at, [*stand, paper, 0, (0, True)], errors.BadPaper)

    def test_what_a_table_allows_limits_floor_and_walker(self):
        self.refused(walks.walk, [ANT, ((0, 0, 2),), (0, 0, 0, 1), -1], errors.BadFloor)
        self.refused(walks.walk, [ANT, ((0, 0, 1),), (0, 0, 0, 1), -1], errors.BadWalker)
        self.refused(walks.walk, [ANT, ((0, 0, 1),), (0, 0, 0, 0), -1], errors.BadNumber)


if __name__ == "__main__":
    unittest.main()
