"""Point 6: walks taken back."""

import unittest

from plain import ANT, FAR, PAINTER, STRAIGHT, TRIPLE, dice_of, some_floor, some_stand, some_undoable
from streetpapers.backs import back, can_be_undone
from streetpapers.errors import BadFloor, BadNumber, BadTable, BadWalker, NoWayBack, TooMany
from streetpapers.walks import walk


class BacksTest(unittest.TestCase):
    def test_can_be_undone(self):
        for table, answer in [
            (ANT, True), (TRIPLE, True), (STRAIGHT, False), (PAINTER, False), ((((1, 1, 0), (1, 3, 0)),), False),
            (((None, None),), True), (((None, (1, 0, 0)),), True), ((((1, 0, 0), None),), True),
            ((((1, 0, 1), (1, 0, 0)), ((0, 0, 1), (0, 0, 0))), True),
            ((((1, 0, 1), (1, 0, 0)), ((0, 0, 1), (1, 0, 1))), False),
            ((((1, 0, 1), None), (None, (1, 2, 1))), False),
            ((((1, 0, 1), None), (None, (1, 2, 0))), True),
            ((((0, 0, 0), (1, 0, 0), (0, 1, 0)),), False),
        ]:
            self.assertIs(can_be_undone(table), answer, table)
        for value in (None, (), ((),), 5, [ANT[0]], "1r0 0l0"):
            with self.assertRaises(BadTable):
                can_be_undone(value)

    def test_back_undoes_walk(self):
        dice = dice_of(4)
        for _ in range(200):
            states, colours = dice.randrange(1, 5), dice.randrange(2, 7)
            table = some_undoable(dice, states, colours, dice.choice([0, 5]))
            self.assertIs(can_be_undone(table), True)
            floor = some_floor(dice, colours, 3, dice.randrange(12))
            walker = (0, 0, dice.randrange(4), dice.randrange(states))
            for many in (0, 1, 2, 50):
                later, then, done = walk(table, floor, walker, many)
                self.assertEqual(back(table, later, then, done), (floor, walker))

    def test_walk_does_again_what_back_undid(self):
        dice = dice_of(5)
        for _ in range(100):
            states, colours = dice.randrange(1, 4), dice.randrange(2, 5)
            table = some_undoable(dice, states, colours, 0)
            floor = some_floor(dice, colours, 3, dice.randrange(12))
            walker = (0, 0, dice.randrange(4), dice.randrange(states))
            earlier, then = back(table, floor, walker, 40)
            self.assertEqual(walk(table, earlier, then, 40), (floor, walker, 40))

    def test_very_many_steps(self):
        swap = (((1, 1, 0), (0, 1, 0)),)
        self.assertEqual(back(swap, (), (0, 0, 0, 0), 100000), ((), (0, 0, 0, 0)))
        floor, walker, done = walk(ANT, (), (0, 0, 0, 0), 20000)
        self.assertEqual(back(ANT, floor, walker, done), ((), (0, 0, 0, 0)))
        for many in (-1, 100001, True, None, "1", FAR):
            with self.assertRaises(BadNumber):
                back(ANT, (), (0, 0, 0, 0), many)

    def test_tables_that_cannot_be_undone(self):
        for many in (0, 1, 100000):
            with self.assertRaises(NoWayBack):
                back(STRAIGHT, (), (0, 0, 0, 0), many)
        with self.assertRaises(BadFloor):
            back(STRAIGHT, ((0, 0, 2),), (0, 0, 0, 0), 1)
        with self.assertRaises(BadWalker):
            back(STRAIGHT, (), (0, 0, 0, 1), 1)
        with self.assertRaises(BadNumber):
            back(STRAIGHT, (), (0, 0, 0, 0), -1)

    def test_stands_to_which_no_entry_leads(self):
        table = (((1, 0, 0), None),)
        stand = (((0, 0, 1), (1, 0, 1)), (2, 0, 1, 0))
        self.assertEqual(back(table, *stand, 0), stand)
        self.assertEqual(back(table, *stand, 1), (((0, 0, 1),), (1, 0, 1, 0)))
        self.assertEqual(back(table, *stand, 2), ((), (0, 0, 1, 0)))
        for many in (3, 4, 100000):
            with self.assertRaises(NoWayBack):
                back(table, *stand, many)
        with self.assertRaises(NoWayBack):
            back(((None, None),), (), (0, 0, 0, 0), 1)
        self.assertEqual(back(((None, None),), (), (0, 0, 0, 0), 0), ((), (0, 0, 0, 0)))
        # State 1 is one to which nothing leads.
        ways = (((1, 1, 0), (0, 1, 0)), (None, None))
        with self.assertRaises(NoWayBack):
            back(ways, (), (0, 0, 0, 1), 1)

    def test_more_than_4000_painted_squares(self):
        eraser = (((1, 2, 0), (0, 0, 0)),)
        row = tuple((x, 9, 1) for x in range(4000))
        floor, walker = back(eraser, row[:3999], (0, 0, 1, 0), 1)
        self.assertEqual((len(floor), walker), (4000, (-1, 0, 1, 0)))
        with self.assertRaises(TooMany) as caught:
            back(eraser, row, (0, 0, 1, 0), 1)
        self.assertEqual(caught.exception.most, 4000)
        with self.assertRaises(TooMany):
            back(eraser, row[:3999], (0, 0, 1, 0), 2)
        self.assertEqual(back(eraser, row, (0, 0, 1, 0), 0), (row, (0, 0, 1, 0)))
        # A square that is painted anew, or made blank, makes none too many.
        shift = (((1, 0, 0), (2, 0, 0), (0, 0, 0)),)
        floor = ((-1, 9, 2), *row[:3999])
        self.assertEqual(back(shift, floor, (0, 9, 1, 0), 1), (((-1, 9, 1), *row[:3999]), (-1, 9, 1, 0)))
        self.assertEqual(back(shift, ((-1, 9, 1), *row[:3999]), (0, 9, 1, 0), 1), (row[:3999], (-1, 9, 1, 0)))

    def test_back_beyond_all_places(self):
        self.assertEqual(back((((1, 0, 0), (0, 0, 0)),), (), (-FAR, 0, 1, 0), 2),
                         (((-FAR - 2, 0, 1), (-FAR - 1, 0, 1)), (-FAR - 2, 0, 1, 0)))

    def test_walks_by_chance_come_back_where_they_can(self):
        dice = dice_of(6)
        for _ in range(150):
            table, floor, walker = some_stand(dice, stops=2)
            later, then, done = walk(table, floor, walker, 9)
            if can_be_undone(table):
                self.assertEqual(back(table, later, then, done), (floor, walker))
            else:
                with self.assertRaises(NoWayBack):
                    back(table, later, then, done)


if __name__ == "__main__":
    unittest.main()
