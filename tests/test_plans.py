"""Points 25 and 26: plans, played, made into tables, and written."""

import unittest

from plain import ANT, DELTAS, FAR, dice_of, some_floor
from streetpapers.errors import BadFloor, BadNumber, BadPlan, BadWalker, Endless, TooMany
from streetpapers.plans import play_plan, table_of, write_plan
from streetpapers.planners import read_plan
from streetpapers.tables import write_table
from streetpapers.walks import walk

STEP, STOP = ("step",), ("stop",)
ANT_PLAN = (2, (("forever", (("if", 0, (("paint", 1), ("turn", 1)), (("paint", 0), ("turn", 3))), STEP)),))


class GoesOn(Exception):
    """A plan goes on for ever."""


def plain_step(todo, colour):
    """What a tuple of parts does up to its next step, part by part: (paint, turn, what is to do then), or None."""
    turn = 0
    seen = set()
    while todo:
        part, *rest = todo
        word = part[0]
        if word in ("while", "forever"):
            if (todo, colour) in seen:
                raise GoesOn
            seen.add((todo, colour))
        todo = tuple(rest)
        if word == "paint":
            colour = part[1]
        elif word == "turn":
            turn += part[1]
        elif word == "step":
            return colour, turn % 4, todo
        elif word == "stop":
            return None
        elif word == "if":
            todo = part[2 if part[1] == colour else 3] + todo
        elif word == "repeat":
            todo = part[2] * part[1] + todo
        elif word == "forever" or part[1] == colour:
            todo = (*part[-1], part, *todo)
    return None


def plain_play(plan, floor, x, y, heading, many):
    squares = {(a, b): colour for a, b, colour in floor}
    todo = plan[1]
    done = 0
    while done < many:
        told = plain_step(todo, squares.get((x, y), 0))
        if told is None:
            break
        squares[x, y], turn, todo = told
        heading = (heading + turn) % 4
        x += DELTAS[heading][0]
        y += DELTAS[heading][1]
        done += 1
    return tuple(sorted((*place, squares[place]) for place in squares if squares[place])), (x, y, heading), done


def plain_table(plan):
    """The table of a plan, or 11 if it has more than 10 states."""
    todos, states = [plan[1]], []
    while len(states) < min(10, len(todos)):
        told = [plain_step(todos[len(states)], colour) for colour in range(plan[0])]
        todos.extend(todo for at, (*_, todo) in enumerate(filter(None, told))
                     if todo not in todos + [other[2] for other in list(filter(None, told))[:at]])
        states.append(tuple(entry and (entry[0], entry[1], todos.index(entry[2])) for entry in told))
    return 11 if len(todos) > 10 else tuple(states)


def some_block(dice, colours, depth, left):
    """A block by chance, in which at most left[0] parts stand."""
    block = []
    words = ["paint", "turn", "turn", "step", "step", "step"] + ["stop"] * (dice.randrange(3) == 0)
    if depth < 6:
        words += ["if", "while", "repeat", "forever", "if", "while"]
    for _ in range(dice.choice([0, 1, 1, 2, 2, 3])):
        if left[0] > 0:
            left[0] -= 1
            word = dice.choice(words)
            part = [word]
            if word in ("paint", "if", "while"):
                part.append(dice.randrange(colours))
            elif word in ("turn", "repeat"):
                part.append(dice.randrange(1, 4) if word == "turn" else dice.choice([0, 1, 2, 2, 3, 8]))
            for _ in range({"if": 2, "while": 1, "repeat": 1, "forever": 1}.get(word, 0)):
                part.append(some_block(dice, colours, depth + 1, left))
            block.append(tuple(part))
    return tuple(block)


def some_plan(dice):
    colours = dice.choice([2, 2, 3, 4, 6])
    return (colours, some_block(dice, colours, 1, [dice.choice([5, 10, 30, 60])]))


def nested(depth, inner=()):
    """A block that is so many blocks deep, the innermost being inner."""
    block = inner
    for at in range(depth - 1):
        block = ((("if", 0, block, ()), ("while", 1, block), ("repeat", 2, block), ("forever", block),
                  ("if", 0, (), block))[at % 5],)
    return block


class PlayTest(unittest.TestCase):
    def plays(self, expected, plan, *values):
        self.assertEqual(play_plan(plan, *values), expected, (plan, values))

    def test_each_kind_of_part(self):
        for parts, expected in [
            ((), ((), (0, 0, 0), 0)),
            ((STEP,), ((), (0, -1, 0), 1)),
            ((("turn", 1), STEP), ((), (1, 0, 1), 1)),
            ((("turn", 2), STEP), ((), (0, 1, 2), 1)),
            ((("turn", 3), STEP), ((), (-1, 0, 3), 1)),
            ((("turn", 3), ("turn", 3), STEP), ((), (0, 1, 2), 1)),
            ((("paint", 2), STEP), (((0, 0, 2),), (0, -1, 0), 1)),
            ((("paint", 2), ("paint", 1), STEP, STEP), (((0, 0, 1),), (0, -2, 0), 2)),
            ((STEP, STOP, STEP), ((), (0, -1, 0), 1)),
            ((("if", 0, (STEP,), ()),), ((), (0, -1, 0), 1)),
            ((("if", 1, (STEP,), ()),), ((), (0, 0, 0), 0)),
            ((("if", 1, (), (STEP, STEP)),), ((), (0, -2, 0), 2)),
            ((("repeat", 3, (STEP,)),), ((), (0, -3, 0), 3)),
            ((("repeat", 0, (STEP,)), ("turn", 1), STEP), ((), (1, 0, 1), 1)),
            ((("repeat", 8, (("turn", 1), STEP)),), ((), (0, 0, 0), 8)),
            ((("while", 1, (STEP,)),), ((), (0, 0, 0), 0)),
            ((("while", 0, (STEP,)),), ((), (0, -100, 0), 100)),
            ((("forever", (STEP, ("turn", 1))),), ((), (0, 0, 3), 100)),
            ((("forever", (STEP, STEP, STOP)),), ((), (0, -2, 0), 2)),
        ]:
            self.plays(expected, (3, parts), (), 0, 0, 0, 100)

    def test_what_a_square_is_to_have_is_looked_at(self):
        for parts, steps in [((("paint", 1), ("if", 1, (STEP,), ())), 1), ((("paint", 1), ("if", 0, (STEP,), ())), 0),
                             ((("while", 0, (("paint", 1),)), STEP), 1),
                             ((("paint", 2), ("while", 2, (("paint", 1),)), ("if", 1, (STEP, STEP), ())), 2),
                             ((("paint", 1), STEP, ("if", 1, (STEP,), (STEP, STEP))), 3)]:
            self.assertEqual(play_plan((3, parts), (), 0, 0, 0, 100)[2], steps)
        # The floor's own colour, too; the square keeps it if it isn't painted.
        floor = ((0, -1, 2), (0, 0, 1))
        self.plays((floor, (0, -2, 0), 2), (3, (("if", 1, (STEP,), ()), ("if", 2, (STEP,), ()))), floor, 0, 0, 0, 9)
        self.plays((((0, -1, 2),), (0, -1, 0), 1), (3, (("paint", 0), STEP)), floor, 0, 0, 0, 9)
        # Painted the colour that it had.
        self.plays((floor, (0, -1, 0), 1), (3, (("paint", 1), STEP)), floor, 0, 0, 0, 9)
        self.plays((floor, (0, -1, 0), 1), (3, (("paint", 0), ("paint", 1), STEP)), floor, 0, 0, 0, 9)

    def test_what_is_done_behind_the_last_step_leaves_nothing(self):
        for end in [(), (STOP,), (("paint", 1),), (("turn", 1), ("paint", 1), STOP), (("turn", 2), ("repeat", 3, ())),
                    (("while", 0, (("paint", 1), ("turn", 1))),), (("if", 0, (("paint", 1), STOP, STEP), ()), STEP)]:
            self.plays((((0, 0, 1),), (0, -1, 0), 1), (2, (("paint", 1), STEP, *end)), (), 0, 0, 0, 9)
            self.plays(((), (0, 0, 2), 0), (2, end), (), 0, 0, 2, 9)
            # So it does behind many steps.
            self.plays((((0, 0, 1),), (0, -1, 0), 1), (2, (("paint", 1), STEP, *end, STEP, STEP)), (), 0, 0, 0, 1)

    def test_how_many_steps(self):
        plan = (2, (("forever", (STEP,)),))
        for many in (0, 1, 2, 99999, 100000):
            self.plays(((), (many, 7, 1), many), plan, (), 0, 7, 1, many)
        self.plays(((), (0, 0, 0), 0), (2, (STOP, STEP)), (), 0, 0, 0, 100000)
        self.plays(((), (0, -5, 0), 5), (2, (("repeat", 5, (STEP,)),)), (), 0, 0, 0, 100000)
        self.plays(((), (0, -4, 0), 4), (2, (("repeat", 5, (STEP,)),)), (), 0, 0, 0, 4)

    def test_a_repeat_that_steps_in_a_later_time(self):
        # The first time paints alone; each time that finds the square painted steps.
        plan = (2, (("repeat", 4, (("if", 1, (STEP,), (("paint", 1),)),)),))
        column = tuple((0, y, 1) for y in range(-9, 0))
        self.plays(((*column, (0, 0, 1)), (0, -3, 0), 3), plan, column, 0, 0, 0, 9)
        self.plays((((0, -1, 1), (0, 0, 1)), (0, -2, 0), 2), plan, (), 0, 0, 0, 9)
        self.assertEqual(write_table(table_of(plan)), "1a1 1a2 / 1a3 1a4 / 1a4 1a1 / - - / - 1a3")

    def test_places_far_away(self):
        plan = (2, (("paint", 1), STEP, STEP))
        self.plays((((FAR, -FAR, 1),), (FAR + 2, -FAR, 1), 2), plan, (), FAR, -FAR, 1, 9)
        self.plays((((-FAR, -FAR, 1),), (-FAR, -FAR - 2, 0), 2), plan, (), -FAR, -FAR, 0, 9)

    def test_too_many_squares(self):
        plan = (2, (("forever", (("paint", 1), STEP)),))
        self.assertEqual(play_plan(plan, (), 0, 0, 1, 4000)[1:], ((4000, 0, 1), 4000))
        for floor, many in [((), 4001), (((0, 5, 1),), 4000), ((), 100000)]:
            with self.assertRaises(TooMany) as caught:
                play_plan(plan, floor, 0, 0, 1, many)
            self.assertEqual(caught.exception.most, 4000)
        floor = tuple((0, y, 1) for y in range(1, 4001))
        # The square is painted only if it is left; a square made blank makes room for another one.
        self.plays((floor, (0, 0, 0), 0), (2, (("paint", 1), STOP)), floor, 0, 0, 0, 9)
        self.plays((floor, (0, -1, 0), 1), (2, (("paint", 1), ("paint", 0), STEP)), floor, 0, 0, 0, 9)
        room = (2, (("paint", 0), STEP, ("paint", 1), STEP))
        self.plays((((0, 0, 1), *floor[1:]), (0, -1, 0), 2), room, floor, 0, 1, 0, 9)

    def test_against_plain_plays(self):
        dice = dice_of(97)
        done = {}
        for _ in range(3000):
            plan = some_plan(dice)
            values = (some_floor(dice, plan[0], 3, dice.randrange(20)), dice.randrange(-2, 3), dice.randrange(-2, 3),
                      dice.randrange(4), dice.choice([0, 1, 2, 10, 60]))
            try:
                expected = plain_play(plan, *values)
                self.plays(expected, plan, *values)
            except GoesOn:
                expected = (None, None, -1)
                with self.assertRaises(Endless):
                    play_plan(plan, *values)
            done[expected[2]] = done.get(expected[2], 0) + 1
        self.assertTrue(min(done.get(many, 0) for many in (-1, 0, 1, 2, 10, 60)) > 20, done)

    def test_repeats_within_repeats(self):
        block = (("turn", 1), ("if", 0, (("paint", 1),), (("paint", 0),)))
        for _ in range(4):
            block = (("repeat", 8, block),)
        self.plays(((), (0, -1, 0), 1), (2, (*block, STEP)), (), 0, 0, 0, 9)
        # Without another turn it would not come round.
        plan = (2, (("forever", (*block[0][2], ("turn", 1), STEP)),))
        self.plays(((), (0, 0, 0), 100000), plan, (), 0, 0, 0, 100000)
        steps = (STEP, ("turn", 1))
        for _ in range(5):
            steps = (("repeat", 8, steps),)
        self.plays(((), (0, 0, 3), 32768), (2, steps), (), 0, 0, 0, 100000)
        self.plays(((), (1, -1, 1), 30002), (2, steps), (), 0, 0, 0, 30002)


class EndlessTest(unittest.TestCase):
    def test_where_it_is_come_to(self):
        for end in [(("forever", ()),), (("while", 0, ()),), (("forever", (("turn", 1),)),),
                    (("while", 0, (("paint", 1), ("paint", 0))),), (("forever", (("while", 0, (("paint", 1),)), ("paint", 0))),),
                    (("forever", (("forever", ()),)),), (("repeat", 2, (("forever", ()),)), STEP), (("forever", ()), STEP),
                    (("forever", (("if", 0, (("paint", 1),), (("paint", 0),)),)),),
                    (("forever", (("if", 1, (STEP,), ()),)),), (("while", 0, (("if", 1, (STEP,), ()),)), STOP)]:
            for function, more in [(play_plan, ((), 0, 0, 0, 1)), (table_of, ())]:
                with self.assertRaises(Endless):
                    function((2, end), *more)
            # Behind two steps.
            plan = (2, (STEP, STEP, *end))
            self.assertEqual(play_plan(plan, (), 0, 0, 0, 2), ((), (0, -2, 0), 2))
            with self.assertRaises(Endless):
                play_plan(plan, (), 0, 0, 0, 3)
            with self.assertRaises(Endless):
                table_of(plan)
            # Not come to at all.
            for ahead in [(STOP,), (STEP, STOP), (("forever", (STEP,)),), (("repeat", 1, (STEP, STOP)),)]:
                play_plan((2, (*ahead, *end)), (), 0, 0, 0, 50)
                table_of((2, (*ahead, *end)))
            play_plan((2, (("repeat", 0, end), STEP)), (), 0, 0, 0, 50)
            table_of((2, (("repeat", 0, end), STEP)))
            self.assertEqual(play_plan((2, end), (), 0, 0, 0, 0), ((), (0, 0, 0), 0))

    def test_only_on_some_colours(self):
        plan = (3, (("forever", (("if", 2, (), (STEP,)),)),))
        self.assertEqual(play_plan(plan, ((0, -3, 1),), 0, 0, 0, 50), (((0, -3, 1),), (0, -50, 0), 50))
        self.assertEqual(play_plan(plan, ((0, -3, 2),), 0, 0, 0, 3), (((0, -3, 2),), (0, -3, 0), 3))
        with self.assertRaises(Endless):
            play_plan(plan, ((0, -3, 2),), 0, 0, 0, 4)
        with self.assertRaises(Endless):
            table_of(plan)
        # A loop that changes the colour ends.
        plan = (3, (("while", 0, (("paint", 1),)), ("while", 1, (("paint", 2),)), STEP))
        self.assertEqual(table_of(plan), (((2, 0, 1),) * 3, (None,) * 3))

    def test_loops_that_end_by_a_step_or_a_stop(self):
        for colours in range(2, 7):
            turns = tuple(("if", colour, (("paint", colour + 1),), ()) for colour in reversed(range(colours - 1)))
            plan = (colours, (("forever", (*turns, ("if", colours - 1, (STOP,), ()))),))
            self.assertEqual(table_of(plan), ((None,) * colours,))
            plan = (colours, (("forever", (*turns, ("turn", 1), ("if", colours - 1, (STEP,), ()))),))
            self.assertEqual(table_of(plan), (tuple((colours - 1, max(1, colours - 1 - colour) % 4, 0)
                                                    for colour in range(colours)),))


class TableTest(unittest.TestCase):
    def test_states_in_their_order(self):
        for plan, text in [
            (ANT_PLAN, "1r0 0l0"),
            ((2, ()), "- -"),
            ((2, (STOP,)), "- -"),
            ((2, (STEP,)), "0a1 1a1 / - -"),
            ((2, (STEP, STEP)), "0a1 1a1 / 0a2 1a2 / - -"),
            ((2, (("repeat", 3, (STEP,)),)), "0a1 1a1 / 0a2 1a2 / 0a3 1a3 / - -"),
            ((2, (("repeat", 0, (STEP,)), ("paint", 1), STEP)), "1a1 1a1 / - -"),
            ((2, (("if", 0, (STEP, STEP), (("turn", 2), STEP)),)), "0a1 1b2 / 0a2 1a2 / - -"),
            ((2, (("if", 1, (STEP, STEP), (("turn", 2), STEP)),)), "0b1 1a2 / - - / 0a1 1a1"),
            ((2, (("while", 0, (STEP,)), ("turn", 1), STEP)), "0a0 1r1 / - -"),
            ((2, (STEP, ("while", 0, (STEP, STEP)), ("turn", 1), STEP)),
             "0a1 1a1 / 0a0 1r2 / - -"),
            ((2, (("while", 0, (STEP, STEP, STEP)), ("turn", 1), STEP)), "0a1 1r2 / 0a3 1a3 / - - / 0a0 1a0"),
            ((2, (("turn", 1), STEP, ("forever", (("paint", 1), STEP)))), "0r1 1r1 / 1a1 1a1"),
            ((2, (("forever", (STEP, ("turn", 1), STEP)),)), "0a1 1a1 / 0r0 1r0"),
            ((2, (("forever", (STEP,)), STEP)), "0a0 1a0"),
            ((3, (("if", 2, (STOP,), ()), ("while", 1, (("turn", 3), STEP)), STEP)), "0a1 1l2 - / - - - / 0a1 1l2 2a1"),
            # The same is to do behind either step, told by parts of another kind.
            ((2, (("if", 0, (STEP, STEP), (("repeat", 2, (STEP,)),)),)), "0a1 1a1 / 0a2 1a2 / - -"),
            # A stop that is to do is not the same as nothing.
            ((2, (("if", 0, (STEP,), (STEP, STOP)),)), "0a1 1a2 / - - / - -"),
        ]:
            self.assertEqual(write_table(table_of(plan)), text, plan)

    def test_against_plain_tables_and_plays(self):
        dice = dice_of(98)
        found = {}
        for _ in range(3000):
            plan = some_plan(dice)
            try:
                expected = plain_table(plan)
            except GoesOn:
                with self.assertRaises(Endless):
                    table_of(plan)
                found[-1] = found.get(-1, 0) + 1
                continue
            if expected == 11:
                with self.assertRaises(TooMany) as caught:
                    table_of(plan)
                self.assertEqual(caught.exception.most, 10)
                found[11] = found.get(11, 0) + 1
                continue
            self.assertEqual(table_of(plan), expected)
            found[len(expected)] = found.get(len(expected), 0) + 1
            floor = some_floor(dice, plan[0], 3, dice.randrange(20))
            for many in (0, 1, 5, 60):
                squares, (x, y, heading, _), done = walk(expected, floor, (0, 1, 2, 0), many)
                self.assertEqual(play_plan(plan, floor, 0, 1, 2, many), (squares, (x, y, heading), done))
        self.assertTrue(min(found.get(many, 0) for many in (-1, 1, 2, 3, 4, 5, 6, 11)) > 10, found)

    def test_ten_states_and_eleven(self):
        self.assertEqual(len(table_of((2, (STEP,) * 9))), 10)
        self.assertEqual(len(table_of((2, (("repeat", 8, (STEP,)), STEP)))), 10)
        self.assertEqual(len(table_of((2, (*[STEP] * 9, ("forever", (STEP,)))))), 10)
        for block in [(STEP,) * 10, (STEP,) * 60, (("repeat", 8, (STEP,)), STEP, STEP)]:
            with self.assertRaises(TooMany) as caught:
                table_of((2, block))
            self.assertEqual(caught.exception.most, 10)

    def test_endless_and_too_many(self):
        loop = ("forever", ())
        # The tenth state is the last one that counts.
        for steps in range(10):
            with self.assertRaises(Endless):
                table_of((2, (*[STEP] * steps, loop)))
            with self.assertRaises(Endless):
                table_of((2, (*[STEP] * steps, ("if", 0, (loop,), ()), *[STEP] * 20)))
            with self.assertRaises(Endless):
                table_of((2, (*[STEP] * steps, ("if", 1, (loop,), ()), *[STEP] * 20)))
        for steps in range(10, 20):
            with self.assertRaises(TooMany):
                table_of((2, (*[STEP] * steps, loop)))

    def test_the_walk_of_the_ant(self):
        self.assertEqual(table_of(ANT_PLAN), ANT)
        for many in (0, 5, 100, 11000):
            squares, (x, y, heading, _), done = walk(ANT, (), (0, 0, 0, 0), many)
            self.assertEqual(play_plan(ANT_PLAN, (), 0, 0, 0, many), (squares, (x, y, heading), done))


class WrongArgumentsTest(unittest.TestCase):
    def refused(self, plan):
        for function, more in [(play_plan, (None, None, None, None, None)), (play_plan, ((), 0, 0, 0, 0)),
                               (table_of, ()), (write_plan, ())]:
            with self.assertRaises(BadPlan) as caught:
                function(plan, *more)
            self.assertIs(type(caught.exception), BadPlan)

    def test_values_that_are_nearly_plans(self):
        for plan in [None, 0, "", (), [], (2,), [2, ()], (2, (), ()), (2, []), (2, None), (2, 0), (2, "step"), (1, ()),
                     (7, ()), (True, ()), (None, ()), ("2", ()), ((), 2), {2: ()}, (2, STEP), (2, {"step": 1})]:
            self.refused(plan)

    def test_values_that_are_nearly_parts(self):
        for part in [None, 0, "step", (), [], ["step"], ("steps",), ("STEP",), (0,), (None,), (["step"],), (("step",),),
                     ("step", 0), ("step", ()), ("stop", 1), ("paint",), ("paint", 2), ("paint", -1), ("paint", True),
                     ("paint", None), ("paint", "1"), ("paint", 0, 0), ("paint", 1, ()), ("turn",), ("turn", 0), ("turn", 4),
                     ("turn", -1), ("turn", True), ("turn", "right"), ("turn", 1, 1), ("if", 0), ("if", 0, ()), ("if", (), ()),
                     ("if", 2, (), ()), ("if", -1, (), ()), ("if", False, (), ()), ("if", 0, (), (), ()), ("if", 0, (), None),
                     ("if", 0, [], ()), ("if", 0, (), []), ("if", 0, STEP, ()), ("if", 0, (), (0,)), ("while", 0),
                     ("while", ()), ("while", 2, ()), ("while", True, ()), ("while", 0, (), ()), ("while", 0, [STEP]),
                     ("while", 0, (None,)), ("repeat", 2), ("repeat", ()), ("repeat", -1, ()), ("repeat", 9, ()),
                     ("repeat", True, ()), ("repeat", 2, (), ()), ("repeat", 2, (STEP, ())), ("forever",), ("forever", None),
                     ("forever", 0, ()), ("forever", STEP), ("forever", [STEP]), ("forever", (("forever",),)), ("end",),
                     ("else",), ("colours", 2)]:
            self.refused((2, (part,)))
            self.refused((2, (STEP, part)))
            self.refused((2, (part, STEP)))
            self.refused((2, (("repeat", 1, (STEP, part)),)))

    def test_numbers_at_their_limits(self):
        for part in [("paint", 0), ("paint", 1), ("turn", 1), ("turn", 3), ("if", 0, (), ()), ("if", 1, (), ()),
                     ("while", 1, ()), ("repeat", 0, ()), ("repeat", 8, ())]:
            self.assertEqual(play_plan((2, (part,)), (), 0, 0, 0, 9), ((), (0, 0, 0), 0))
        for colours in range(2, 7):
            top = colours - 1
            plan = (colours, (("paint", top), ("if", top, (STEP,), ()), ("while", top, (STEP,))))
            self.assertEqual(play_plan(plan, ((0, -1, top),), 0, 0, 0, 9),
                             (((0, -1, top), (0, 0, top)), (0, -2, 0), 2))
            for part in [("paint", colours), ("if", colours, (), ()), ("while", colours, ())]:
                self.refused((colours, (part,)))

    def test_depth(self):
        for depth in range(1, 7):
            write_plan((2, nested(depth)))
            write_plan((2, nested(depth, (STEP,))))
        for depth in (7, 8, 20, 300):
            self.refused((2, nested(depth)))
            self.refused((2, nested(depth, (STEP,))))
            self.refused((2, (STEP, *nested(depth))))
        deep = ()
        for _ in range(100000):
            deep = (("forever", deep),)
        self.refused((2, deep))

    def test_how_many_parts(self):
        for block in [(STEP,) * 60, (("repeat", 1, (STEP,) * 59),), nested(5, (STEP,) * 56),
                      (("if", 0, (STEP,) * 29, (STEP,) * 30),)]:
            write_plan((2, block))
            self.refused((2, (*block, STEP)))
            self.refused((2, (("forever", block),)))
        self.refused((2, (STEP,) * 61))
        self.refused((2, (("if", 0, (STEP,) * 30, (STEP,) * 30),)))
        self.refused((2, (("repeat", 1, (STEP,) * 60),)))
        self.refused((2, (("forever", (("forever", (("forever", (STEP,) * 20),) * 20),) * 20),) * 20))

    def test_errors_in_their_order(self):
        plan = (2, (("forever", ()),))
        for floor, index in [(None, None), ([], None), (((0, 0, 2),), 0), (((0, 0, 1), (0, 0, 1)), 1)]:
            with self.assertRaises(BadFloor) as caught:
                play_plan(plan, floor, None, None, None, None)
            self.assertEqual(caught.exception.index, index)
        for x, y, heading in [(None, 0, 0), (0, None, 0), (0, 0, None), (True, 0, 0), (0, False, 0), (0, 0, True),
                              (FAR + 1, 0, 0), (0, -FAR - 1, 0), (0, 0, 4), (0, 0, -1), ("0", 0, 0), ((0, 0), 0, 0)]:
            with self.assertRaises(BadWalker):
                play_plan(plan, (), x, y, heading, None)
        for many in (-1, 100001, True, None, "1"):
            with self.assertRaises(BadNumber):
                play_plan(plan, (), 0, 0, 0, many)
            with self.assertRaises(BadNumber):
                play_plan((2, (("forever", (("paint", 1), STEP)),)), (), 0, 0, 0, many)
        # A colour of the plan, though none of two colours.
        play_plan((3, ()), ((0, 0, 2),), 0, 0, 0, 0)


class WriteTest(unittest.TestCase):
    def test_lines(self):
        for plan, lines in [
            ((2, ()), ["colours 2"]),
            ((6, (("paint", 5), ("turn", 1), ("turn", 2), ("turn", 3), STEP, STOP)),
             ["colours 6", "paint 5", "turn right", "turn back", "turn left", "step", "stop"]),
            ((3, (("if", 2, (STEP,), (STOP,)),)), ["colours 3", "if 2", "step", "else", "stop", "end"]),
            ((3, (("if", 2, (STEP,), ()),)), ["colours 3", "if 2", "step", "end"]),
            ((3, (("if", 2, (), (STEP,)),)), ["colours 3", "if 2", "else", "step", "end"]),
            ((3, (("if", 2, (), ()),)), ["colours 3", "if 2", "end"]),
            ((3, (("while", 0, ()), ("repeat", 8, (STEP,)), ("forever", (("repeat", 0, ()),)))),
             ["colours 3", "while 0", "end", "repeat 8", "step", "end", "forever", "repeat 0", "end", "end"]),
            (ANT_PLAN, ["colours 2", "forever", "if 0", "paint 1", "turn right", "else", "paint 0", "turn left", "end",
                        "step", "end"]),
        ]:
            self.assertEqual(write_plan(plan), "\n".join(lines))
            self.assertEqual(read_plan("\n".join(lines)), plan)

    def test_there_and_back(self):
        dice = dice_of(99)
        lengths = set()
        for _ in range(1000):
            plan = some_plan(dice)
            text = write_plan(plan)
            self.assertEqual(read_plan(text), plan)
            self.assertEqual(write_plan(read_plan(text)), text)
            lengths.add(text.count("\n"))
        self.assertGreater(max(lengths), 60)


if __name__ == "__main__":
    unittest.main()
