"""Point 16: trails."""

import unittest

from plain import ANT, FAR, HALTING, PAINTER, STRAIGHT, TRIPLE, dice_of, plain_stands, some_stand
from streetpapers.errors import (BadFloor, BadNumber, BadPlace, BadTable, BadWalker, InvalidText, NotText, Stopped,
                                 TooMany)
from streetpapers.trails import Trail, read_trail

EAST = (0, 0, 1, 0)
NO_NUMBERS = (True, False, None, "1", (1,), [], -1, FAR, 10 ** 5000)


class TrailTest(unittest.TestCase):
    def same(self, trail, stands):
        """Hold a trail against the stands behind each number of its steps."""
        self.assertEqual(trail.length(), len(stands) - 1)
        for at, (floor, walker, _) in enumerate(stands):
            self.assertEqual(trail.walker_at(at), walker)
            self.assertEqual(trail.floor_at(at), floor)
        places = {}
        for at, (_, walker, _) in enumerate(stands):
            places.setdefault(walker[:2], []).append(at)
        for place, visits in places.items():
            self.assertEqual(trail.visits(place), tuple(visits))
            beside = (place[0] + 1, place[1])
            self.assertEqual(trail.visits(beside), tuple(places.get(beside, ())))
        self.assertEqual(trail.trodden(), tuple(sorted((place, len(visits)) for place, visits in places.items())))

    def test_no_steps_at_first(self):
        trail = Trail(TRIPLE, ((3, 3, 2),), (3, 4, 0, 0))
        self.assertEqual((trail.length(), trail.walker_at(0), trail.floor_at(0)), (0, (3, 4, 0, 0), ((3, 3, 2),)))
        self.assertEqual((trail.visits((3, 4)), trail.visits((3, 3))), ((0,), ()))
        self.assertEqual(trail.trodden(), (((3, 4), 1),))
        self.assertEqual(trail.write(), "0 3 4 0 0 3 3 b")

    def test_each_step_of_a_walk(self):
        dice = dice_of(40)
        for _ in range(40):
            stand = some_stand(dice, states=3, stops=dice.choice([0, 9]), many=12)
            stands = plain_stands(*stand, 60)
            trail = Trail(*stand)
            self.assertIsNone(trail.go_on(0))
            while trail.length() < len(stands) - 1:
                trail.go_on(min(dice.randrange(1, 30), len(stands) - 1 - trail.length()))
            self.same(trail, stands)

    def test_back_and_going_on_again(self):
        dice = dice_of(41)
        for _ in range(25):
            stand = some_stand(dice, stops=0, many=12)
            stands = plain_stands(*stand, 50)
            trail = Trail(*stand)
            for _ in range(4):
                trail.go_on(dice.randrange(51 - trail.length()))
                at = dice.randrange(trail.length() + 1)
                self.assertIsNone(trail.back_to(at))
                self.same(trail, stands[:at + 1])
            trail.go_on(50 - trail.length())
            self.same(trail, stands)
            trail.back_to(50)
            self.same(trail, stands)
            trail.back_to(0)
            self.same(trail, stands[:1])

    def test_up_to_20000_steps(self):
        for parts in [(20000,), (1, 19999), (15000, 5000), (20000, 0)]:
            trail = Trail(STRAIGHT, (), EAST)
            for many in parts:
                trail.go_on(many)
            self.assertEqual((trail.length(), trail.walker_at(20000)), (20000, (20000, 0, 1, 0)))
            for many in (1, 2, 20000, 20001):
                with self.assertRaises(BadNumber):
                    trail.go_on(many)
            self.assertEqual(trail.length(), 20000)
            trail.back_to(19990)
            with self.assertRaises(BadNumber):
                trail.go_on(11)
            trail.go_on(10)
            self.assertEqual(trail.visits((19995, 0)), (19995,))
        with self.assertRaises(BadNumber):
            Trail(STRAIGHT, (), EAST).go_on(20001)

    def test_a_walk_that_stops(self):
        trail = Trail(HALTING, ((5, 0, 1),), EAST)
        with self.assertRaises(Stopped):
            trail.go_on(6)
        self.same(trail, plain_stands(HALTING, ((5, 0, 1),), EAST, 9))
        trail.go_on(0)
        for many in (1, 20000 - 5):
            with self.assertRaises(Stopped):
                trail.go_on(many)
        with self.assertRaises(BadNumber):
            trail.go_on(20000)
        trail.back_to(2)
        trail.go_on(3)
        self.assertEqual((trail.length(), trail.walker_at(5)), (5, (5, 0, 1, 0)))

    def test_too_many_painted_squares(self):
        trail = Trail(PAINTER, (), EAST)
        with self.assertRaises(TooMany) as caught:
            trail.go_on(4001)
        self.assertEqual(caught.exception.most, 4000)
        self.assertEqual((trail.length(), len(trail.floor_at(4000))), (4000, 4000))
        self.assertEqual(trail.walker_at(4000), (4000, 0, 1, 0))
        with self.assertRaises(TooMany):
            trail.go_on(1)
        trail.back_to(3999)
        trail.go_on(1)
        self.assertEqual(trail.floor_at(4000)[-1], (3999, 0, 1))

    def test_wrong_numbers(self):
        trail = Trail(ANT, (), (0, 0, 0, 0))
        trail.go_on(5)
        before = trail.write()
        for many in (*NO_NUMBERS, 20001, 19996):
            with self.assertRaises(BadNumber):
                trail.go_on(many)
        for step in (*NO_NUMBERS, 6, 20000):
            for method in (trail.walker_at, trail.floor_at, trail.back_to):
                with self.assertRaises(BadNumber):
                    method(step)
        self.assertEqual((trail.length(), trail.write()), (5, before))

    def test_wrong_places(self):
        trail = Trail(ANT, (), (0, 0, 0, 0))
        for place in (None, 0, True, "a", (), (0,), (0, 0, 0), [0, 0], (0, True), (FAR + 1, 0), (0, -FAR - 1)):
            with self.assertRaises(BadPlace):
                trail.visits(place)
        self.assertEqual(trail.visits((FAR, -FAR)), ())

    def test_wrong_stands(self):
        for error, table, floor, walker in [
            (BadTable, (), None, None), (BadFloor, ANT, ((0, 0, 2),), None), (BadFloor, ANT, None, None),
            (BadWalker, ANT, (), (0, 0, 0, 1)), (BadWalker, ANT, (), (FAR + 1, 0, 0, 0)),
        ]:
            with self.assertRaises(error):
                Trail(table, floor, walker)

    def test_walks_beyond_all_places(self):
        trail = Trail(PAINTER, (), (FAR, FAR, 1, 0))
        trail.go_on(2)
        self.assertEqual(trail.walker_at(2), (FAR + 2, FAR, 1, 0))
        self.assertEqual(trail.floor_at(2), ((FAR, FAR, 1), (FAR + 1, FAR, 1)))
        self.assertEqual(trail.trodden(), (((FAR, FAR), 1), ((FAR + 1, FAR), 1), ((FAR + 2, FAR), 1)))


class TrailTextTest(unittest.TestCase):
    def invalid(self, table, text, place=0):
        with self.assertRaises(InvalidText) as caught:
            read_trail(table, text)
        self.assertEqual(caught.exception.place, place, text)

    def test_there_and_back(self):
        dice = dice_of(42)
        stands = [some_stand(dice, stops=0) for _ in range(40)]
        stands += [(ANT, (), (FAR, -FAR, 3, 0)), (ANT, ((-FAR, FAR, 1), (1 - FAR, FAR, 1)), (-FAR, FAR, 0, 0)),
                   (STRAIGHT, ((0, 0, 1), (9998, 9998, 1)), EAST)]
        for table, floor, walker in stands:
            for many in (0, 1, 25):
                trail = Trail(table, floor, walker)
                trail.go_on(many)
                again = read_trail(table, trail.write())
                self.assertIs(type(again), Trail)
                self.assertEqual((again.length(), again.write()), (many, trail.write()))
                self.assertEqual((again.walker_at(0), again.floor_at(0)), (walker, floor))
                self.assertEqual((again.walker_at(many), again.floor_at(many)),
                                 (trail.walker_at(many), trail.floor_at(many)))

    def test_the_text(self):
        trail = Trail(TRIPLE, ((-4, 7, 2), (-3, 7, 2), (-2, 9, 1)), (FAR, -5, 3, 0))
        trail.go_on(12)
        self.assertEqual(trail.write(), f"12 {FAR} -5 3 0 -4 7 2b//2.a")
        trail.back_to(3)
        self.assertEqual(trail.write(), f"3 {FAR} -5 3 0 -4 7 2b//2.a")
        self.assertEqual(Trail(ANT, (), (1, 2, 3, 0)).write(), "0 1 2 3 0 0 0 ")

    def test_floors_that_are_too_wide_to_be_written(self):
        for floor in [((0, 0, 1), (9999, 0, 1)), ((0, 0, 1), (0, 9999, 1)), ((0, 0, 1), (FAR, 0, 1))]:
            with self.assertRaises(TooMany) as caught:
                Trail(ANT, floor, EAST).write()
            self.assertEqual(caught.exception.most, 9999)
        self.assertEqual(Trail(ANT, ((0, 0, 1), (9998, 0, 1)), EAST).write(), "0 0 0 1 0 0 0 a9997.a")

    def test_no_such_texts(self):
        good = "5 0 0 0 0 1 2 a.a"
        self.assertEqual(read_trail(ANT, good).length(), 5)
        for text in ("", " ", good + " ", " " + good, good.replace(" ", "  ", 1), good + " a", "5 " + good,
                     "5 0 0 0 0 1 2", "5 0 0 0 0", good.replace(" ", "\t"), good.replace(" ", "\n"),
                     "x 0 0 0 0 1 2 a.a", "05 0 0 0 0 1 2 a.a", "+5 0 0 0 0 1 2 a.a", "-1 0 0 0 0 1 2 a.a",
                     "20001 0 0 0 0 1 2 a.a", "5 0 0 0 0 01 2 a.a", "5 0 0 0 0 1 -0 a.a", "5 0 0 0 0 1 x a.a",
                     f"5 0 0 0 0 {FAR + 1} 2 a.a", f"5 0 0 0 0 1 {-FAR - 1} a.a", " 0 0 0 0 1 2 a.a",
                     "\u0665 0 0 0 0 1 2 a.a"):
            self.invalid(ANT, text)
        # It is no such text, whatever stands for the floor.
        for text in ("x 0 0 0 0 1 2 a!", "5 0 0 0 0 1 x a!", "20001 0 0 0 0 1 2 a!", f"5 0 0 0 0 {FAR + 1} 2 a!"):
            self.invalid(ANT, text)

    def test_floors_and_walkers_that_are_no_texts(self):
        for text, place in [("a!", 1), ("2", 1), ("a/2/a", 3), ("0a", 1), ("3.12345a", 7), ("x", 0), ("9999aa", 5)]:
            self.invalid(ANT, f"5 0 0 0 0 1 2 {text}", place)
            # The floor's text comes ahead of the walker's, and both ahead of what the table allows.
            self.invalid(ANT, f"5 0 0 4 0 1 2 {text}", place)
            self.invalid(ANT, f"5 0 0 0 9 1 2 {text}", place)
        for walker in ("0 0 4 0", "0 0 0 10", "0 0 00 0", "0 -0 0 0", "a 0 0 0", f"{FAR + 1} 0 0 0"):
            self.invalid(ANT, f"5 {walker} 1 2 a.a")
            self.invalid(ANT, f"5 {walker} 1 2 a.f", 2)
            self.invalid(ANT, f"5 {walker} 1 2 a.b")

    def test_floors_and_walkers_of_the_table(self):
        # A floor of the place (1, 2) and a text that tells b ahead of the walker's state, or of trailing blanks.
        for text, index in [("5 0 0 0 0 1 2 a.b", 1), ("5 0 0 0 1 1 2 b.a", 0), ("5 0 0 0 0 1 2 b.", 0),
                            (f"5 0 0 0 0 {FAR} 2 2a", 1), (f"5 0 0 0 0 1 {FAR} a/a", 1),
                            (f"5 0 0 0 0 {FAR} {FAR} .b", 0), ("5 0 0 0 0 0 0 3ab", 3)]:
            with self.assertRaises(BadFloor) as caught:
                read_trail(ANT, text)
            self.assertEqual(caught.exception.index, index, text)
        for text in ("5 0 0 0 1 1 2 a.a", "5 0 0 0 9 0 0 ", "5 0 0 0 1 1 2 a.", "5 0 0 0 1 1 2 .a"):
            with self.assertRaises(BadWalker):
                read_trail(ANT, text)
        self.assertEqual(read_trail(TRIPLE, "5 0 0 0 0 1 2 a.b").floor_at(0), ((1, 2, 1), (3, 2, 2)))

    def test_texts_that_are_not_just_as_written(self):
        for text in ("5 0 0 0 0 1 2 a.", "5 0 0 0 0 1 2 .a", "5 0 0 0 0 1 2 aa", "5 0 0 0 0 1 2 1a", "5 0 0 0 0 1 2 02a",
                     "5 0 0 0 0 1 2 a/", "5 0 0 0 0 1 2 /a", "5 0 0 0 0 1 2 ", "5 0 0 0 0 0 1 ", "5 0 0 0 0 0 0 .",
                     "5 0 0 0 0 0 0 /", "5 0 0 0 0 0 0 a..a", "5 0 0 0 0 0 0 a/././a", "5 0 0 0 0 0 0 a./a"):
            self.invalid(ANT, text)
        # Ahead of the stop: this one would stop at once.
        self.invalid(HALTING, "5 0 0 1 0 0 0 a.")
        # Ten thousand rows can be read, though none would be written.
        self.invalid(ANT, "5 0 0 0 0 0 0 a" + "/" * 9999 + "a")
        self.assertEqual(read_trail(ANT, "5 0 0 0 0 0 0 a" + "/" * 9998 + "a").length(), 5)

    def test_walks_that_stop_or_paint_too_much(self):
        self.assertEqual(read_trail(HALTING, "5 0 0 1 0 5 0 a").walker_at(5), (5, 0, 1, 0))
        for text in ("6 0 0 1 0 5 0 a", "20000 0 0 1 0 5 0 a", "1 0 0 1 0 0 0 a"):
            with self.assertRaises(Stopped):
                read_trail(HALTING, text)
        self.assertEqual(read_trail(PAINTER, "4000 0 0 1 0 0 0 ").length(), 4000)
        with self.assertRaises(TooMany) as caught:
            read_trail(PAINTER, "4001 0 0 1 0 0 0 ")
        self.assertEqual(caught.exception.most, 4000)

    def test_tables_and_texts(self):
        for table in (None, (), "1r0 0l0", [ANT[0]], (((1, 1, 0),),)):
            with self.assertRaises(BadTable):
                read_trail(table, None)
        for text in (None, 5, True, (), ["5 0 0 0 0 0 0 "]):
            with self.assertRaises(NotText):
                read_trail(ANT, text)


if __name__ == "__main__":
    unittest.main()
