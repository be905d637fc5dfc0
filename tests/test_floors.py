"""Points 3 and 4: places, floors and their texts."""

import unittest

from plain import FAR, dice_of, some_floor
from streetpapers.errors import BadFloor, BadNumber, BadPlace, InvalidText, NotText, TooMany
from streetpapers.floors import box, moved, read_floor, turned, write_floor


def bad_index(test, function, *values):
    with test.assertRaises(BadFloor) as caught:
        function(*values)
    return caught.exception.index


class FloorsTest(unittest.TestCase):
    def test_places_as_far_as_they_may_be(self):
        floor = ((-FAR, -FAR, 1), (-FAR, FAR, 2), (FAR, -FAR, 3), (FAR, FAR, 5))
        self.assertEqual(box(floor), (-FAR, -FAR, FAR, FAR))
        for square in [(FAR + 1, 0, 1), (-FAR - 1, 0, 1), (0, FAR + 1, 1), (0, -FAR - 1, 1)]:
            self.assertEqual(bad_index(self, box, (square,)), 0)
        for place in [(FAR + 1, 0), (-FAR - 1, 0), (0, FAR + 1), (0, -FAR - 1)]:
            with self.assertRaises(BadPlace):
                moved((), place)

    def test_how_many_squares(self):
        row = tuple((x, 0, 1) for x in range(4001))
        for many in (0, 1, 4000):
            self.assertEqual(moved(row[:many], (0, 0)), row[:many])
        self.assertIsNone(bad_index(self, box, row))

    def test_no_tuple(self):
        for value in (None, 0, True, "", [], {}, [(0, 0, 1)]):
            self.assertIsNone(bad_index(self, box, value))

    def test_the_first_bad_square(self):
        good = ((0, 0, 1), (0, 1, 5), (1, -1, 2))
        self.assertEqual(box(good), (0, -1, 1, 1))
        for square in [None, 3, (5, 5), (5, 5, 1, 1), [5, 5, 1], (5, 5, 0), (5, 5, 6), (5, 5, -1), (5, 5, True),
                       (True, 5, 1), (5, False, 1), (5, 5, "a"), ("5", 5, 1), (5, None, 1), (1, -1, 2), (1, -2, 2),
                       (0, 9, 1), (-1, 0, 1), (5, 5, (1,)), "abc", ()]:
            self.assertEqual(bad_index(self, box, (*good, square)), 3, square)
            self.assertEqual(bad_index(self, box, (*good, square, square)), 3, square)
        self.assertEqual(bad_index(self, box, (None, None)), 0)

    def test_each_function_checks_its_floor(self):
        for function, more in [(moved, [None]), (turned, [9]), (box, []), (write_floor, [])]:
            self.assertEqual(bad_index(self, function, ((0, 0, 1), (0, 0, 1)), *more), 1)

    def test_moved(self):
        floor = ((0, 0, 1), (0, 3, 2), (4, -5, 5))
        self.assertEqual(moved(floor, (2, -3)), ((2, -3, 1), (2, 0, 2), (6, -8, 5)))
        self.assertEqual(moved(floor, (0, 0)), floor)
        self.assertEqual(moved((), (FAR, FAR)), ())
        self.assertEqual(moved(((FAR, 0, 1),), (FAR, -FAR)), ((2 * FAR, -FAR, 1),))
        for move in (None, (1,), (1, 2, 3), [1, 2], (True, 0), 5):
            with self.assertRaises(BadPlace):
                moved(floor, move)

    def test_turned(self):
        floor = ((0, -2, 1), (1, 0, 2), (1, 3, 3))
        self.assertEqual(turned(floor, 0), floor)
        self.assertEqual(turned(floor, 1), ((-3, 1, 3), (0, 1, 2), (2, 0, 1)))
        self.assertEqual(turned(floor, 2), ((-1, -3, 3), (-1, 0, 2), (0, 2, 1)))
        self.assertEqual(turned(floor, 3), ((-2, 0, 1), (0, -1, 2), (3, -1, 3)))
        self.assertEqual(turned(turned(floor, 3), 1), floor)
        for quarters in (-1, 4, True, None, "1", (1,), FAR):
            with self.assertRaises(BadNumber):
                turned(floor, quarters)

    def test_box(self):
        self.assertIsNone(box(()))
        self.assertEqual(box(((7, -9, 1),)), (7, -9, 7, -9))
        self.assertEqual(box(((-3, 5, 1), (0, -2, 1), (2, 0, 1))), (-3, -2, 2, 5))


class FloorTextsTest(unittest.TestCase):
    def invalid(self, text):
        with self.assertRaises(InvalidText) as caught:
            read_floor(text)
        return caught.exception.place

    def test_write(self):
        for floor, told in [
            ((), ("", (0, 0))),
            (((0, 0, 1),), ("a", (0, 0))),
            (((-5, 9, 5),), ("e", (-5, 9))),
            (((0, 0, 1), (1, 0, 2), (2, 0, 3), (3, 0, 4), (4, 0, 5)), ("abcde", (0, 0))),
            (((0, 0, 1), (1, 0, 1), (2, 0, 2), (5, 0, 2)), ("2ab2.b", (0, 0))),
            (((0, 0, 1), (2, 0, 1)), ("a.a", (0, 0))),
            (((0, 2, 2), (1, 0, 1), (2, 0, 1)), (".2a//b", (0, 0))),
            (((3, 4, 1), (4, 1, 1), (5, 4, 1)), (".a///a.a", (3, 1))),
            (tuple((x, 7, 3) for x in range(4000)), ("4000c", (0, 7))),
            (((FAR, -FAR, 1),), ("a", (FAR, -FAR))),
            (((-FAR, FAR, 1),), ("a", (-FAR, FAR))),
            (((-FAR, 0, 1), (9998 - FAR, 0, 2)), ("a9997.b", (-FAR, 0))),
            (((0, 0, 1), (0, 9998, 2)), ("a" + "/" * 9998 + "b", (0, 0))),
        ]:
            self.assertEqual(write_floor(floor), told)

    def test_sides_too_long(self):
        for floor in [((0, 0, 1), (9999, 0, 1)), ((0, 0, 1), (0, 9999, 1)), ((-FAR, 0, 1), (FAR, 0, 1))]:
            with self.assertRaises(TooMany) as caught:
                write_floor(floor)
            self.assertEqual(caught.exception.most, 9999)

    def test_read(self):
        for text, floor in [
            ("", ()), (".", ()), ("/", ()), ("3./2.//", ()), ("a", ((0, 0, 1),)),
            ("abcde", ((0, 0, 1), (1, 0, 2), (2, 0, 3), (3, 0, 4), (4, 0, 5))),
            ("1a01b001c0001d", ((0, 0, 1), (1, 0, 2), (2, 0, 3), (3, 0, 4))),
            ("0012.a", ((12, 0, 1),)), ("aa", ((0, 0, 1), (1, 0, 1))), ("2a..3.", ((0, 0, 1), (1, 0, 1))),
            ("//.b//", ((1, 2, 2),)), ("a/a", ((0, 0, 1), (0, 1, 1))), ("9998.e", ((9998, 0, 5),)),
            ("9999.", ()), ("/" * 9999 + "a", ((0, 9999, 1),)), ("9999./9999.", ()),
        ]:
            self.assertEqual(read_floor(text), floor)
        self.assertEqual(read_floor("4000a"), tuple((x, 0, 1) for x in range(4000)))
        self.assertEqual(read_floor("2000a/2000b")[-1], (1999, 1, 2))

    def test_there_and_back(self):
        dice = dice_of(2)
        for reach in (0, 1, 2, 5, 30):
            for _ in range(40):
                floor = some_floor(dice, 6, reach, dice.randrange(40))
                text, place = write_floor(floor)
                self.assertEqual(moved(read_floor(text), place), floor)
                self.assertEqual(write_floor(read_floor(text)), (text, (0, 0)))

    def test_no_text(self):
        for value in (None, 0, True, (), ["a"], {"a": 1}):
            with self.assertRaises(NotText):
                read_floor(value)

    def test_signs_that_cannot_stand(self):
        for text, place in [
            ("x", 0), ("f", 0), ("A", 0), (" ", 0), ("a b", 1), ("ab\n", 2), ("a-", 1), ("2", 1), ("a23", 3),
            ("2x", 1), ("12 a", 2), ("0a", 1), ("a0.", 2), ("0000a", 4), ("00000a", 5), ("12345a", 5),
            ("00001a", 5), ("3/", 1), ("a/3/a", 3), ("\u0663a", 0), ("2\u0663a", 1), ("1" * 5000 + "a", 5000),
            ("1" * 5000, 5000), ("0/", 1), ("12345", 5), ("aa0", 3),
        ]:
            self.assertEqual(self.invalid(text), place, text[:20])

    def test_rows_too_long_or_too_many(self):
        for text, place in [
            ("9999.a", 5), ("9999.2a", 6), ("9999..", 5), ("9998.2a", 6), ("a/9999..", 7), ("9999a9999a", 9),
            ("/" * 10000, 9999), ("/" * 10000 + "a", 9999), ("/" * 10001, 9999),
        ]:
            self.assertEqual(self.invalid(text), place)
        self.assertEqual(self.invalid("a" * 10000), 9999)

    def test_too_many_painted_squares(self):
        for text in ["4001a", "2000a/2001b", "9999a", "a" * 4001, "/".join(["9999e"] * 10000)]:
            self.assertEqual(self.invalid(text), 0)
        # What cannot stand at its place is named ahead of that.
        self.assertEqual(self.invalid("4001ax"), 5)
        self.assertEqual(self.invalid("4001a" + "/" * 10000), 5 + 9999)


if __name__ == "__main__":
    unittest.main()
