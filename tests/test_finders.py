"""Point 9: papers found."""

import itertools
import unittest

from plain import (ANT, FAR, HALTING, PAINTER, STRAIGHT, TRIPLE, dice_of, plain_round, plain_stands, plain_street,
                   some_stand)
from streetpapers.errors import BadNumber, BadPaper, TooMany
from streetpapers.finders import _agreements, _likely_periods, find_paper, soonest
from streetpapers.papers import shows_paper
from streetpapers.tables import read_table

STAND = ((), (0, 0, 0, 0))


class FindersTest(unittest.TestCase):
    def found(self, table, floor, walker, steps, most):
        paper = find_paper(table, floor, walker, steps, most)
        if paper is not None:
            self.assertTrue(shows_paper(table, floor, walker, paper), (table, floor, walker, steps, most, paper))
        return paper

    def test_stops(self):
        for at in (0, 1, 5, 29999, 30000):
            floor = ((at, 0, 1),)
            self.assertEqual(self.found(HALTING, floor, (0, 0, 1, 0), 30000, 1), ("stops", at))
            if at > 1:
                self.assertEqual(self.found(HALTING, floor, (0, 0, 1, 0), at, 1), ("stops", at))
                self.assertIsNone(self.found(HALTING, floor, (0, 0, 1, 0), at - 1, 1))
        self.assertEqual(self.found(((None, None),), (), (0, 0, 1, 0), 1, 1), ("stops", 0))

    def test_streets_at_the_limits_of_the_promise(self):
        self.assertEqual(self.found(TRIPLE, *STAND, 39 + 36, 18)[::2], ("street", 18))
        self.assertIsNone(self.found(TRIPLE, *STAND, 39 + 36 - 1, 18))
        self.assertIsNone(self.found(TRIPLE, *STAND, 39 + 36, 17))
        self.assertEqual(self.found(STRAIGHT, *STAND, 2, 1), ("street", 0, 1))
        self.assertIsNone(self.found(STRAIGHT, *STAND, 1, 2000))
        self.assertEqual(self.found(ANT, *STAND, 9977 + 208, 104), ("street", 9977, 104))
        self.assertEqual(self.found(ANT, *STAND, 30000, 2000), ("street", 9977, 104))
        self.assertIsNone(self.found(ANT, *STAND, 9977 + 207, 104))
        self.assertIsNone(self.found(ANT, *STAND, 30000, 103))

    def test_streets_that_only_seem_to_be_some(self):
        # The square that breaks them off lies ahead of all that was walked, near or far.
        for at in (30, 29999, 30000, 10 ** 20, FAR):
            self.assertIsNone(self.found(STRAIGHT, ((at, 0, 1),), (0, 0, 1, 0), min(at, 30000), 2000))
        self.assertEqual(self.found(STRAIGHT, ((30, 0, 1),), (0, 0, 1, 0), 33, 1), ("street", 31, 1))
        self.assertIsNone(self.found(STRAIGHT, ((30, 0, 1),), (0, 0, 1, 0), 32, 1))

    def test_long_periods(self):
        # Straight on over squares that lie in wait: round by round it turns back at two of them.
        table = (((0, 0, 0), (1, 2, 0)),)
        for width in (1, 7, 500, 1000):
            floor = ((0, 0, 1), (width, 0, 1))
            walker = (1, 0, 1, 0) if width > 1 else (0, 0, 3, 0)
            self.assertEqual(self.found(table, floor, walker, max(64, 8 * width), 1), ("round", 0, 2 * width))
        self.assertIsNone(self.found(table, ((0, 0, 1), (1001, 0, 1)), (1, 0, 1, 0), 30000, 1))
        # A street whose walker counts to twenty by its states and colours.
        states = 10
        count = tuple(((0, 0, (k + 1) % states), None) for k in range(states))
        self.assertEqual(self.found(count, *STAND, 20, 10), ("street", 0, 10))
        self.assertIsNone(self.found(count, *STAND, 19, 10))
        self.assertIsNone(self.found(count, *STAND, 30000, 9))

    def test_streets_whose_last_steps_are_alike(self):
        for text, walker, first, period in [
            ("0b1 2r1 2b1 / 1l2 1l2 1l0 / 1a1 2a2 0l2", (2, 1, 1, 2), 8, 10),
            ("1b0 1a2 1r0 / 0b1 2b1 2r1 / 1a0 0a2 0b0", (-1, -1, 0, 0), 1, 8),
            ("0l1 0a0 / 1b2 0b0 / 1b0 1r0", (-1, 1, 3, 1), 0, 23),
        ]:
            for steps in range(first + 2 * period, first + 4 * period):
                paper = self.found(read_table(text), (), walker, steps, period)
                self.assertEqual(paper, ("street", first, period), (text, steps))

    def test_periods_that_are_tried(self):
        for many in range(1, 13):
            for items in itertools.product("ab", repeat=many):
                agree = _agreements(items, many // 2)
                periods = []
                for shift in range(1, many // 2 + 1):
                    alike = [items[k] == items[k + shift] for k in range(many - shift)]
                    self.assertEqual(agree[shift], [*alike, False].index(False))
                    again = any(items[:shift] == items[:short] * (shift // short) for short in range(1, shift))
                    if items[:shift] == items[shift:2 * shift] and not again:
                        periods.append(shift)
                self.assertEqual(_likely_periods(agree), periods)

    def test_rounds_at_the_limits_of_the_promise(self):
        circle = (((1, 1, 0), (0, 1, 0)),)
        self.assertEqual(self.found(circle, *STAND, 64, 1)[::2], ("round", 8))
        self.assertEqual(self.found(circle, *STAND, 200, 20), ("round", 0, 8))
        # Straight on, and then round: four times the first step is the limit.
        table = (((0, 0, 0), (0, 1, 1)), ((0, 1, 1), (1, 1, 1)))
        for at in (5, 16, 17, 100):
            steps = max(64, 4 * (at + 1))
            self.assertEqual(self.found(table, ((at, 0, 1),), (0, 0, 1, 0), steps, 1)[::2], ("round", 4))

    def test_all_that_is_promised_by_chance(self):
        dice = dice_of(8)
        kinds = {}
        for _ in range(150):
            stand = some_stand(dice, stops=dice.choice([0, 7]))
            steps, most = dice.choice([3, 20, 64, 100, 160]), dice.randrange(1, 21)
            paper = self.found(*stand, steps, most)
            kinds[paper and paper[0]] = True
            if paper is None:
                self.assertEqual(len(plain_stands(*stand, steps)), steps + 1)
                for period in range(1, min(most, steps // 2) + 1):
                    if plain_street(*stand, steps - 2 * period, period, 2):
                        self.assertFalse(plain_street(*stand, steps - 2 * period, period, 60))
                for period in range(1, steps // 4 + 1):
                    self.assertFalse(steps >= 64 and plain_round(*stand, steps // 4, period))
        self.assertEqual(len(kinds), 4)

    def test_steps_and_most(self):
        self.assertEqual(find_paper(STRAIGHT, *STAND, 30000, 2000), ("street", 0, 1))
        self.assertIsNone(find_paper(STRAIGHT, *STAND, 1, 1))
        for steps in (0, -1, 30001, True, None, "5"):
            with self.assertRaises(BadNumber):
                find_paper(STRAIGHT, *STAND, steps, 0)
        for most in (0, -1, 2001, True, None, "5"):
            with self.assertRaises(BadNumber):
                find_paper(STRAIGHT, *STAND, 5, most)

    def test_too_many(self):
        self.assertEqual(self.found(PAINTER, *STAND, 4000, 5), ("street", 0, 1))
        with self.assertRaises(TooMany) as caught:
            find_paper(PAINTER, *STAND, 4001, 5)
        self.assertEqual(caught.exception.most, 4000)


class SoonestTest(unittest.TestCase):
    def test_papers_that_begin_later(self):
        for first in (39, 40, 56, 57, 58, 1000):
            self.assertEqual(soonest(TRIPLE, *STAND, ("street", first, 18)), ("street", 39, 18))
            self.assertEqual(soonest(TRIPLE, *STAND, ("street", first, 36)), ("street", 39, 36))
        circle = (((1, 1, 0), (0, 1, 0)),)
        for first in (0, 1, 8, 100000):
            self.assertEqual(soonest(circle, *STAND, ("round", first, 8)), ("round", 0, 8))
            self.assertEqual(soonest(circle, *STAND, ("round", first, 16)), ("round", 0, 16))
        table = (((0, 0, 0), (0, 1, 1)), ((0, 1, 1), (1, 1, 1)))
        self.assertEqual(soonest(table, ((9, 0, 1),), (0, 0, 1, 0), ("round", 500, 4)), ("round", 10, 4))
        self.assertEqual(soonest(HALTING, ((9, 0, 1),), (0, 0, 1, 0), ("stops", 9)), ("stops", 9))
        self.assertEqual(soonest(STRAIGHT, *STAND, ("street", 100000, 2000)), ("street", 0, 2000))

    def test_none_begins_earlier(self):
        dice = dice_of(9)
        seen = 0
        for _ in range(200):
            stand = some_stand(dice, stops=0)
            paper = find_paper(*stand, 100, 20)
            if paper is not None:
                later = (paper[0], paper[1] + dice.randrange(50), paper[2])
                kind, first, period = soonest(*stand, later)
                self.assertEqual((kind, period), (paper[0], paper[2]))
                for begin in range(12):
                    self.assertEqual(shows_paper(*stand, (kind, begin, period)), begin >= first)
                self.assertEqual(soonest(*stand, (kind, first, period)), (kind, first, period))
                seen += first > 0
        self.assertTrue(seen > 5)

    def test_bad_papers(self):
        for paper in [("street", 38, 18), ("street", 39, 17), ("round", 39, 18), ("stops", 39), None, (), "street",
                      ("street", 39, 18.0), ("street", 39, True), ["street", 39, 18], ("street", 100001, 18)]:
            with self.assertRaises(BadPaper):
                soonest(TRIPLE, *STAND, paper)


if __name__ == "__main__":
    unittest.main()
