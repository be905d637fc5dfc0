"""Point 11: what a walk asks of its table, and the tables by which it is the same."""

import itertools
import unittest

from plain import ANT, HALTING, PAINTER, STRAIGHT, dice_of, plain_stands, some_stand, some_table
from streetpapers.errors import BadNumber, BadTable, TooMany
from streetpapers.kin import asked, kin_count, walks_alike

EAST = (0, 0, 1, 0)


def plain_asked(table, floor, walker, many):
    stands = plain_stands(table, floor, walker, many)
    return tuple(sorted({(stand[3], colour) for _, stand, colour in stands[:many]}))


def all_tables(states, colours):
    entries = [None, *itertools.product(range(colours), range(4), range(states))]
    for row in itertools.product(entries, repeat=states * colours):
        yield tuple(row[at:at + colours] for at in range(0, states * colours, colours))


class AskedTest(unittest.TestCase):
    def test_no_one_and_many_steps(self):
        self.assertEqual(asked(ANT, (), (0, 0, 0, 0), 0), ())
        self.assertEqual(asked(ANT, (), (0, 0, 0, 0), 1), ((0, 0),))
        self.assertEqual(asked(ANT, ((0, 0, 1),), (0, 0, 0, 0), 1), ((0, 1),))
        self.assertEqual(asked(ANT, (), (0, 0, 0, 0), 100000 // 10), ((0, 0), (0, 1)))
        self.assertEqual(asked(STRAIGHT, (), EAST, 100000), ((0, 0),))

    def test_the_pair_at_which_it_stops(self):
        stops = ((None, None, None), (None, None, None))
        for state in (0, 1):
            for colour in (0, 1, 2):
                floor = ((0, 0, colour),) if colour else ()
                for many in (1, 2, 100000):
                    self.assertEqual(asked(stops, floor, (0, 0, 1, state), many), ((state, colour),))
                self.assertEqual(asked(stops, floor, (0, 0, 1, state), 0), ())
        # It does three steps, and reads ahead of the fourth what stops it.
        for many, pairs in [(0, ()), (1, ((0, 0),)), (3, ((0, 0),)), (4, ((0, 0), (0, 1))), (9, ((0, 0), (0, 1)))]:
            self.assertEqual(asked(HALTING, ((3, 0, 1),), EAST, many), pairs)

    def test_pairs_are_ascending(self):
        table = ((None, (0, 0, 0), (2, 0, 1)), ((0, 0, 1), (1, 0, 0), None))
        floor = ((0, 0, 2), (1, 0, 1), (2, 0, 1))
        self.assertEqual(asked(table, floor, EAST, 4), ((0, 0), (0, 1), (0, 2), (1, 1)))

    def test_against_plain_walks(self):
        dice = dice_of(20)
        stopped = 0
        for _ in range(150):
            stand = some_stand(dice, states=4, colours=4)
            for many in (0, 1, 2, 3, 10, 30):
                self.assertEqual(asked(*stand, many), plain_asked(*stand, many))
            stopped += len(plain_stands(*stand, 30)) < 31
        self.assertTrue(10 < stopped < 140)

    def test_wrong_numbers_and_too_many(self):
        for many in (-1, 100001, True, None, "3", 10 ** 60):
            with self.assertRaises(BadNumber):
                asked(STRAIGHT, (), EAST, many)
            with self.assertRaises(BadNumber):
                kin_count(STRAIGHT, (), EAST, many)
        self.assertEqual(asked(PAINTER, (), EAST, 4000), ((0, 0),))
        for function, more in [(asked, ()), (kin_count, ()), (walks_alike, (PAINTER,))]:
            with self.assertRaises(TooMany) as caught:
                function(PAINTER, (), EAST, 4001, *more)
            self.assertEqual(caught.exception.most, 4000)


class AlikeTest(unittest.TestCase):
    def test_the_same_table(self):
        for many in (0, 1, 2, 5, 1000):
            self.assertIs(walks_alike(ANT, (), (0, 0, 0, 0), many, ANT), True)
            self.assertIs(walks_alike(ANT, (), (0, 0, 0, 0), many, (((1, 1, 0), (0, 3, 0)),)), True)

    def test_tables_that_differ_at_one_pair(self):
        # The ant reads the colour 1 for the first time in its fifth step.
        for other in [(((1, 1, 0), None),), (((1, 1, 0), (1, 3, 0)),), (((1, 1, 0), (0, 1, 0)),)]:
            for many in range(8):
                self.assertIs(walks_alike(ANT, (), (0, 0, 0, 0), many, other), many < 5)
        for other in [((None, (0, 3, 0)),), (((0, 1, 0), (0, 3, 0)),), (((1, 2, 0), (0, 3, 0)),)]:
            for many in range(8):
                self.assertIs(walks_alike(ANT, (), (0, 0, 0, 0), many, other), many < 1)
        states = (((1, 1, 0), (0, 3, 0)), ((0, 0, 0), (0, 0, 0)))
        self.assertIs(walks_alike(states, (), (0, 0, 0, 0), 50, (states[0], (None, (1, 1, 1)))), True)
        self.assertIs(walks_alike(states, (), (0, 0, 0, 1), 50, (states[0], (None, (0, 0, 0)))), False)

    def test_a_pair_at_which_it_stops(self):
        goes_on = (((0, 0, 0), (0, 0, 0)),)
        for many, alike in [(0, True), (3, True), (4, False), (9, False)]:
            self.assertIs(walks_alike(HALTING, ((3, 0, 1),), EAST, many, goes_on), alike)
            self.assertIs(walks_alike(goes_on, ((3, 0, 1),), EAST, many, HALTING), alike)

    def test_more_or_fewer_states_or_colours(self):
        two = (((1, 1, 0), (0, 3, 0)), ((1, 1, 0), (0, 3, 0)))
        three = (((1, 1, 0), (0, 3, 0), (0, 0, 0)),)
        for many in (0, 1, 9):
            for one, other in [(ANT, two), (ANT, three), (two, ANT), (three, ANT), (two, three), (three, two)]:
                self.assertIs(walks_alike(one, (), (0, 0, 0, 0), many, other), False)

    def test_then_the_walks_are_the_same(self):
        dice = dice_of(21)
        alike = 0
        for _ in range(300):
            table, floor, walker = some_stand(dice)
            other = some_table(dice, len(table), len(table[0]), 6)
            mixed = tuple(tuple(dice.choice(pair) for pair in zip(*rows)) for rows in zip(table, other))
            for many in (1, 3, 12):
                answer = walks_alike(table, floor, walker, many, mixed)
                pairs = plain_asked(table, floor, walker, many)
                self.assertIs(answer, all(table[state][colour] == mixed[state][colour] for state, colour in pairs))
                if answer:
                    self.assertEqual(plain_stands(table, floor, walker, many), plain_stands(mixed, floor, walker, many))
                    self.assertEqual(asked(mixed, floor, walker, many), pairs)
                    alike += 1
        self.assertTrue(100 < alike < 800)

    def test_wrong_tables(self):
        for other in (None, (), [ANT[0]], "1r0 0l0", (((1, 1, 0),),), (((2, 1, 0), None),)):
            with self.assertRaises(BadTable):
                walks_alike(ANT, (), (0, 0, 0, 0), 5, other)
            with self.assertRaises(BadNumber):
                walks_alike(ANT, (), (0, 0, 0, 0), -1, other)
            with self.assertRaises(BadTable):
                walks_alike(PAINTER, (), EAST, 4001, other)


class KinCountTest(unittest.TestCase):
    def counted(self, tables, table, floor, walker, many):
        pairs = plain_asked(table, floor, walker, many)
        kin = [other for other in tables
               if all(table[state][colour] == other[state][colour] for state, colour in pairs)]
        self.assertEqual(kin_count(table, floor, walker, many), len(kin))
        return kin

    def test_against_counting_all_tables(self):
        for colours, floor in [(2, ((2, 0, 1),)), (3, ((1, 0, 2), (2, 0, 1)))]:
            tables = list(all_tables(1, colours))
            self.assertEqual(len(tables), (4 * colours + 1) ** colours)
            dice = dice_of(22)
            for _ in range(12):
                table = dice.choice(tables)
                for many in (0, 1, 2, 3, 7):
                    kin = self.counted(tables, table, floor, EAST, many)
                    for other in dice.sample(kin, min(20, len(kin))):
                        self.assertTrue(walks_alike(table, floor, EAST, many, other))

    def test_against_counting_all_tables_of_two_states(self):
        tables = list(all_tables(2, 2))
        table = (((1, 1, 1), (0, 0, 0)), (None, (1, 2, 0)))
        for many in (0, 1, 2):
            self.counted(tables, table, ((1, 0, 1),), (0, 0, 0, 0), many)

    def test_large_tables(self):
        table = (((0, 0, 0), *[None] * 5),) * 10
        self.assertEqual(kin_count(table, (), EAST, 0), 241 ** 60)
        self.assertEqual(kin_count(table, (), EAST, 9), 241 ** 59)
        self.assertEqual(kin_count(((None, None),), (), EAST, 5), 9)


if __name__ == "__main__":
    unittest.main()
