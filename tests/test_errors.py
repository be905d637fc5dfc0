"""The errors: their names, their attributes, and what they derive from."""

import unittest

from streetpapers import errors

PLAIN = ("BadTable", "BadWalker", "BadNumber", "BadPlace", "BadPaper", "NoWayBack", "NotTurning", "Stopped",
         "NotText", "NoPaper", "NothingToUndo", "Unasked", "BadGround", "BadMachine", "BadTape", "BadPlan",
         "Endless")
TOLD = {"BadFloor": ("index",), "InvalidText": ("place",), "TooMany": ("most",), "BadLine": ("line", "word")}


class ErrorsTest(unittest.TestCase):
    def test_all_derive_from_walk_error_and_not_from_one_another(self):
        self.assertTrue(issubclass(errors.WalkError, ValueError))
        kinds = [getattr(errors, name) for name in [*PLAIN, *TOLD]]
        for kind in kinds:
            self.assertTrue(issubclass(kind, errors.WalkError))
            for other in kinds:
                self.assertEqual(issubclass(kind, other), kind is other)

    def test_there_are_no_others(self):
        found = [name for name in vars(errors) if isinstance(getattr(errors, name), type)]
        self.assertEqual(sorted(found), sorted([*PLAIN, *TOLD, "WalkError"]))

    def test_attributes_are_set(self):
        for name, words in TOLD.items():
            error = getattr(errors, name)(*range(7, 7 + len(words)))
            self.assertEqual([getattr(error, word) for word in words], list(range(7, 7 + len(words))))
            named = getattr(errors, name)(**{word: 5 for word in words})
            self.assertEqual([getattr(named, word) for word in words], [5] * len(words))
        self.assertIsNone(errors.BadFloor(None).index)

    def test_plain_ones_are_raised_and_caught(self):
        for name in PLAIN:
            with self.assertRaises(errors.WalkError):
                raise getattr(errors, name)("why")


if __name__ == "__main__":
    unittest.main()
