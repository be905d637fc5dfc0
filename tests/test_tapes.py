"""Point 23: machines on tapes, and walks that do the same."""

import unittest

from plain import FAR, dice_of
from streetpapers.errors import BadMachine, BadNumber, BadTape, TooMany
from streetpapers.finders import find_paper
from streetpapers.papers import painted_at, shows_paper, walker_at
from streetpapers.tables import write_table
from streetpapers.tapes import tape_by_walker, tape_run, tape_stand, walker_table
from streetpapers.walks import walk

# It writes 1 four times and stops.
BEAVER = (((1, 1, 1), (1, -1, 1)), ((1, -1, 0), None))
# It goes right for ever, or up to the next sign 1.
SEEKER = (((0, 1, 0), None),)
WRITER = (((1, 1, 0), (1, 1, 0)),)


def plain_run(machine, tape, head, state, many):
    """What the machine does, in the plainest way: (signs, head, state, done) behind 0, 1 .. steps, or to its stop."""
    signs = {at: sign for at, sign in enumerate(tape) if sign}
    stands = []
    for done in range(many + 1):
        stands.append((tuple(sorted(signs.items())), head, state, done))
        rule = machine[state][signs.get(head, 0)]
        if rule is None:
            break
        if rule[0]:
            signs[head] = rule[0]
        elif head in signs:
            del signs[head]
        head += rule[1]
        state = rule[2]
    return stands


def some_machine(dice, stops):
    states, signs = dice.randrange(1, 6), dice.randrange(2, 7)

    def rule():
        if stops and dice.randrange(stops) == 0:
            return None
        return (dice.randrange(signs), dice.choice([-1, 1]), dice.randrange(states))
    return tuple(tuple(rule() for _ in range(signs)) for _ in range(states))


class RunTest(unittest.TestCase):
    def test_against_plain_runs(self):
        dice = dice_of(90)
        done = {}
        sizes = set()
        for _ in range(400):
            machine = some_machine(dice, dice.choice([0, 3, 9]))
            sizes.add((len(machine), len(machine[0])))
            tape = tuple(dice.randrange(len(machine[0])) for _ in range(dice.choice([0, 1, 5, 30])))
            head, state = dice.randrange(-4, 9), dice.randrange(len(machine))
            stands = plain_run(machine, tape, head, state, 120)
            for many in (0, 1, 2, 3, 17, 120):
                expected = stands[min(many, len(stands) - 1)]
                self.assertEqual(tape_run(machine, tape, head, state, many), expected)
                self.assertEqual(tape_by_walker(machine, tape, head, state, many), expected)
            done[len(stands)] = done.get(len(stands), 0) + 1
        self.assertTrue(done[1] > 10 and done[121] > 10 and len(done) > 9, done)
        self.assertEqual(sizes, {(states, signs) for states in range(1, 6) for signs in range(2, 7)})

    def test_stopping_at_once_later_and_not_at_all(self):
        for run in (tape_run, tape_by_walker):
            self.assertEqual(run(SEEKER, (1, 0, 0, 1), 0, 0, 9), (((0, 1), (3, 1)), 0, 0, 0))
            self.assertEqual(run(SEEKER, (1, 0, 0, 1), 1, 0, 9), (((0, 1), (3, 1)), 3, 0, 2))
            self.assertEqual(run(SEEKER, (1, 0, 0, 1), 1, 0, 2), (((0, 1), (3, 1)), 3, 0, 2))
            self.assertEqual(run(SEEKER, (1, 0, 0, 1), 1, 0, 1), (((0, 1), (3, 1)), 2, 0, 1))
            self.assertEqual(run(SEEKER, (1, 0, 0, 1), 4, 0, 100000), (((0, 1), (3, 1)), 100004, 0, 100000))
            self.assertEqual(run(BEAVER, (), 0, 0, 5), (((-2, 1), (-1, 1), (0, 1), (1, 1)), -1, 1, 5))
            self.assertEqual(run(BEAVER, (), 0, 0, 0), ((), 0, 0, 0))

    def test_heads_far_away(self):
        for run in (tape_run, tape_by_walker):
            for head in (-FAR, 1 - FAR, -10 ** 30, 10 ** 30, FAR - 1, FAR):
                self.assertEqual(run(WRITER, (), head, 0, 3), (tuple((head + k, 1) for k in range(3)), head + 3, 0, 3))
            left = (((1, -1, 0), None),)
            self.assertEqual(run(left, (0, 1), -FAR, 0, 2), (((-FAR - 1, 1), (-FAR, 1), (1, 1)), -FAR - 2, 0, 2))

    def test_tapes_of_many_signs(self):
        for run in (tape_run, tape_by_walker):
            tape = (1,) * 399 + (0,)
            self.assertEqual(run(WRITER, tape, 399, 0, 1), (tuple((k, 1) for k in range(400)), 400, 0, 1))
            blanker = (((0, 1, 0), (0, 1, 0)),)
            self.assertEqual(run(blanker, tape, 0, 0, 398), (((398, 1),), 398, 0, 398))

    def test_too_many_for_the_walk_alone(self):
        self.assertEqual(tape_by_walker(WRITER, (), 5, 0, 4000), tape_run(WRITER, (), 5, 0, 4000))
        with self.assertRaises(TooMany) as caught:
            tape_by_walker(WRITER, (), 5, 0, 4001)
        self.assertEqual(caught.exception.most, 4000)
        signs, head, state, done = tape_run(WRITER, (), 5, 0, 100000)
        self.assertEqual((len(signs), head, state, done), (100000, 100005, 0, 100000))
        with self.assertRaises(TooMany):
            tape_by_walker(WRITER, (1,) * 400, -1, 0, 4002)
        tape_by_walker(WRITER, (1,) * 400, 0, 0, 4000)


class WalkTest(unittest.TestCase):
    def test_tables_rule_by_rule(self):
        dice = dice_of(91)
        self.assertEqual(walker_table((((1, -1, 0), None),)), (((1, 2, 1), None), ((1, 0, 1), None)))
        self.assertEqual(walker_table(BEAVER), (((1, 0, 2), (1, 2, 3)), ((1, 2, 2), (1, 0, 3)),
                                                ((1, 2, 1), None), ((1, 0, 1), None)))
        for _ in range(100):
            machine = some_machine(dice, 4)
            table = walker_table(machine)
            write_table(table)
            self.assertEqual((len(table), len(table[0])), (2 * len(machine), len(machine[0])))
            for state, rules in enumerate(machine):
                for sign, rule in enumerate(rules):
                    for half in (0, 1):
                        entry = table[2 * state + half][sign]
                        if rule is None:
                            self.assertIsNone(entry)
                        else:
                            heading = ((1, 3)[half] + entry[1]) % 4
                            self.assertEqual((entry[0], heading), (rule[0], {1: 1, -1: 3}[rule[1]]))
                            self.assertEqual(entry[2], 2 * rule[2] + {1: 0, -1: 1}[rule[1]])

    def test_stands(self):
        self.assertEqual(tape_stand(BEAVER, (), 0, 0), ((), (0, 0, 1, 0)))
        self.assertEqual(tape_stand(BEAVER, (1, 0, 0, 1), -7, 1), (((0, 0, 1), (3, 0, 1)), (-7, 0, 1, 2)))
        machine = (((0, 1, 0),) * 6,) * 5
        self.assertEqual(tape_stand(machine, (5, 0, 3), FAR, 4), (((0, 0, 5), (2, 0, 3)), (FAR, 0, 1, 8)))

    def test_papers_of_the_walk_tell_of_the_run(self):
        dice = dice_of(92)
        kinds = {}
        for _ in range(200):
            machine = some_machine(dice, dice.choice([0, 5]))
            tape = tuple(dice.randrange(len(machine[0])) for _ in range(dice.randrange(6)))
            floor, walker = tape_stand(machine, tape, 0, 0)
            table = walker_table(machine)
            paper = find_paper(table, floor, walker, 300, 60)
            if paper is not None:
                kinds[paper[0]] = kinds.get(paper[0], 0) + 1
                for step in (0, 1, 50, 700):
                    signs, head, state, _ = tape_run(machine, tape, 0, 0, step)
                    x, y, heading, half = walker_at(table, floor, walker, paper, step)
                    self.assertEqual((x, y, half // 2), (head, 0, state))
                    self.assertEqual(painted_at(table, floor, walker, paper, step), len(signs))
                    # Behind a step its half of the states tells its heading.
                    self.assertEqual(heading, (1, 3)[half % 2])
        self.assertTrue(kinds["stops"] > 10 and kinds["street"] > 10, kinds)
        self.assertIs(shows_paper(walker_table(WRITER), *tape_stand(WRITER, (), 9, 0), ("street", 0, 1)), True)

    def test_a_stand_is_walked_as_the_run_goes(self):
        dice = dice_of(93)
        for _ in range(60):
            machine = some_machine(dice, 6)
            tape = tuple(dice.randrange(len(machine[0])) for _ in range(9))
            squares, (x, y, _, half), done = walk(walker_table(machine), *tape_stand(machine, tape, 4, 0), 40)
            self.assertEqual((tuple((place, sign) for place, _, sign in squares), x, half // 2, done),
                             tape_run(machine, tape, 4, 0, 40))
            self.assertEqual(y, 0)


class WrongArgumentsTest(unittest.TestCase):
    def refused(self, error, machine, tape=(), head=0, state=0, many=0):
        """Whether all functions that take these values raise the error."""
        calls = [(tape_run, (machine, tape, head, state, many)), (tape_by_walker, (machine, tape, head, state, many)),
                 (tape_stand, (machine, tape, head, state))]
        for function, values in calls + ([(walker_table, (machine,))] if error is BadMachine else []):
            with self.assertRaises(error) as caught:
                function(*values)
            self.assertIs(type(caught.exception), error)

    def test_values_that_are_nearly_machines(self):
        rule = (1, 1, 0)
        for machine in [((None,),), ((None,),) * 5, (((0, 1, 0),),), (), None, 0, "", [(rule, rule)], ([rule, rule],), ((rule,),), ((rule,) * 7,), ((rule, rule),) * 6,
                        ((rule, rule), (rule, rule, rule)), ((rule, rule, rule), (rule, rule)), (((2, 1, 0), rule),),
                        (((1, 0, 0), rule),), (((1, 2, 0), rule),), (((1, -2, 0), rule),), (((1, 1, 1), rule),),
                        (((1, 1, -1), rule),), (((-1, 1, 0), rule),), (((True, 1, 0), rule),), (((1, True, 0), rule),),
                        (((1, 1, False), rule),), (((1, 1), rule),), (((1, 1, 0, 0), rule),), (([1, 1, 0], rule),),
                        (((None, 1, 0), rule),), (((1, "1", 0), rule),), ((0, rule),), (("-", rule),), ((rule, ()),), ((),),
                        ((), ()), (rule, rule)]:
            self.refused(BadMachine, machine, None, None, None, None)
            self.refused(BadMachine, machine)
        for machine in [((None, None),), ((None,) * 6,) * 5, ((rule, None),)]:
            walker_table(machine)

    def test_values_that_are_nearly_tapes(self):
        for tape in [None, 0, "", [], [0], "01", (0,) * 401, (2,), (0, -1), (True,), (0, False), (None,), ((0,),), ("0",),
                     {0: 1}]:
            self.refused(BadTape, SEEKER, tape, None, None, None)
            self.refused(BadTape, SEEKER, tape)
        for tape in [(), (0,) * 400, (1, 0, 1)]:
            tape_stand(SEEKER, tape, 0, 0)

    def test_heads_states_and_numbers(self):
        for head in (FAR + 1, -FAR - 1, True, None, "0", (0,)):
            self.refused(BadNumber, SEEKER, (), head, None, None)
            self.refused(BadNumber, SEEKER, (), head)
        for state in (1, -1, True, False, None, "0"):
            self.refused(BadNumber, SEEKER, (), 0, state, None)
        self.refused(BadNumber, BEAVER, (), 0, 2)
        for many in (-1, 100001, True, None, "1"):
            for run in (tape_run, tape_by_walker):
                with self.assertRaises(BadNumber):
                    run(WRITER, (), 0, 0, many)


if __name__ == "__main__":
    unittest.main()
