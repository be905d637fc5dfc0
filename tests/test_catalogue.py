"""Point 24: the catalogue of what the walks from small floors do."""

import itertools
import unittest

from plain import ANT, FAR, HALTING, PAINTER, STRAIGHT, TRIPLE, dice_of, some_table
from streetpapers.catalogue import catalogue
from streetpapers.errors import BadNumber, BadTable, TooMany
from streetpapers.finders import find_paper
from streetpapers.papers import move_of

START = (0, 0, 0, 0)


def plain_catalogue(table, wide, high, steps, most):
    counts = {}
    places = [(x, y) for x in range(wide) for y in range(high)]
    for colours in itertools.product(range(len(table[0])), repeat=len(places)):
        floor = tuple((*place, colour) for place, colour in zip(places, colours) if colour)
        paper = find_paper(table, floor, START, steps, most)
        if paper is None:
            kind = ("unknown",)
        elif paper[0] == "street":
            x, y = move_of(table, floor, START, paper)
            kind = ("street", paper[2], sorted([(x, y), (-y, x), (-x, -y), (y, -x)])[-1])
        else:
            kind = (paper[0], *paper[2:])
        counts[kind] = counts.get(kind, 0) + 1
    return tuple(sorted(counts.items()))


class CatalogueTest(unittest.TestCase):
    def test_one_place(self):
        self.assertEqual(catalogue(HALTING, 1, 1, 40, 3), ((("stops",), 1), (("street", 1, (1, 0)), 1)))
        self.assertEqual(catalogue(STRAIGHT, 1, 1, 40, 3), ((("street", 1, (1, 0)), 2),))
        self.assertEqual(catalogue(((None, (0, 0, 0), (1, 0, 0)),), 1, 1, 40, 3), ((("stops",), 3),))
        self.assertEqual(catalogue((((1, 1, 0), (0, 1, 0)),), 1, 1, 64, 10), ((("round", 8), 2),))
        self.assertEqual(catalogue(ANT, 1, 1, 60, 5), ((("unknown",), 2),))

    def test_against_each_floor_by_itself(self):
        dice = dice_of(95)
        kinds = set()
        for colours, wide, high in [(2, 1, 1), (2, 2, 2), (2, 1, 6), (2, 6, 1), (2, 2, 3), (2, 3, 2), (3, 2, 2), (3, 1, 5),
                                    (3, 3, 2), (4, 2, 2), (4, 1, 4), (5, 2, 2), (5, 3, 1), (6, 1, 3), (6, 3, 1), (6, 1, 1)]:
            for stops in (0, 7):
                table = some_table(dice, 2, colours, stops)
                steps, most = dice.choice([(64, 10), (100, 24), (1, 1)])
                found = catalogue(table, wide, high, steps, most)
                self.assertEqual(found, plain_catalogue(table, wide, high, steps, most))
                self.assertEqual(sum(many for _, many in found), colours ** (wide * high))
                self.assertEqual(list(found), sorted(found))
                kinds.update(kind[0] for kind, _ in found)
        self.assertEqual(kinds, {"unknown", "stops", "round", "street"})

    def test_kinds_ascend(self):
        # By the colour at (0, 0) it stops, goes round or walks one of several streets.
        table = (((0, 0, 0), None, (3, 1, 0), (2, 1, 0)),)
        self.assertEqual(catalogue(table, 1, 2, 400, 30), plain_catalogue(table, 1, 2, 400, 30))
        table = (((0, 0, 1), (1, 1, 2), None), ((0, 0, 1),) * 3, ((0, 1, 3),) * 3, ((0, 3, 2),) * 3)
        self.assertEqual(catalogue(table, 1, 1, 100, 30),
                         ((("stops",), 1), (("street", 1, (1, 0)), 1), (("street", 2, (1, 1)), 1)))

    def test_the_greatest_turn_of_a_move(self):
        for turn in range(4):
            # It turns once, at first, and goes straight on.
            table = (((0, turn, 1), (1, turn, 1)), ((0, 0, 1), (1, 0, 1)))
            self.assertEqual(catalogue(table, 1, 1, 10, 3), ((("street", 1, (1, 0)), 2),))
        found = catalogue(TRIPLE, 1, 1, 500, 20)
        self.assertIn(("street", 18, (1, 1)), [kind for kind, _ in found])

    def test_limits(self):
        for wide, high in [(2, 4), (4, 2), (6, 2), (6, 6), (3, 3), (2, 5)]:
            for table in (ANT, (((0, 0, 0),) * 6,)):
                self.too_many(6, table, wide, high, 9, 3)
        for colours, wide, high in [(4, 1, 5), (4, 5, 1), (6, 2, 2), (6, 1, 4), (4, 3, 2), (5, 1, 5), (6, 6, 1)]:
            self.too_many(800, (((0, 0, 0),) * colours,), wide, high, 9, 3)
        for colours, wide, high in [(3, 2, 3), (5, 2, 2), (2, 6, 1), (4, 4, 1), (6, 3, 1)]:
            found = catalogue((((0, 0, 0),) * colours,), wide, high, 5, 1)
            self.assertEqual(found, ((("street", 1, (1, 0)), colours ** (wide * high)),))

    def too_many(self, most, *values):
        with self.assertRaises(TooMany) as caught:
            catalogue(*values)
        self.assertEqual(caught.exception.most, most)

    def test_too_many_painted_squares(self):
        # With a square beside its way a walk of 4000 steps would paint one too many.
        self.assertEqual(catalogue(PAINTER, 1, 1, 4000, 1), ((("street", 1, (1, 0)), 2),))
        self.too_many(4000, PAINTER, 2, 1, 4000, 1)
        self.too_many(6, PAINTER, 4, 2, 4000, 1)

    def test_errors_in_their_order(self):
        for value in (None, (), [ANT[0]], (((2, 1, 0), None),)):
            with self.assertRaises(BadTable):
                catalogue(value, None, None, None, None)
        good = (ANT, 2, 2, 9, 3)
        for at, wrong in [(1, (0, 7, True, None, FAR)), (2, (0, 7, True, "1")), (3, (0, 4001, True, None)),
                          (4, (0, 201, True, None))]:
            for value in wrong:
                for later in (9, None):
                    with self.assertRaises(BadNumber):
                        catalogue(*good[:at], value, *((later,) * (4 - at) if later is None else good[at + 1:]))
        catalogue(ANT, 1, 6, 4000, 200)
        # Both are behind the numbers.
        for steps, most in [(0, 3), (9, 0), (4001, 3), (9, 201)]:
            with self.assertRaises(BadNumber):
                catalogue(ANT, 6, 6, steps, most)
            with self.assertRaises(BadNumber):
                catalogue((((0, 0, 0),) * 6,), 6, 1, steps, most)


if __name__ == "__main__":
    unittest.main()
