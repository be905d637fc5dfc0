"""Point 18: desks."""

import unittest

from plain import ANT, FAR, PAINTER, STRAIGHT, TRIPLE, plain_stands
from streetpapers.desk import Desk, run
from streetpapers.errors import (BadFloor, BadNumber, BadPlace, BadTable, BadWalker, InvalidText, NoPaper, NothingToUndo,
                                 NotText, Stopped, TooMany, Unasked)
from streetpapers.sessions import Session

HALTS = "0a0 -"
WORDS = ("put 1 2 1", "lay 1 2 a.a", "stand 1 2 3 0", "go 3", "undo", "redo", "know 10 1", "walker", "colour 1 2",
         "painted", "steps", "floor", "table")


class AskTest(unittest.TestCase):
    def answers(self, desk, *pairs):
        for line, answer in pairs:
            self.assertEqual(desk.ask(line), answer, line)

    def refused(self, desk, error, *lines):
        for line in lines:
            with self.assertRaises(error) as caught:
                desk.ask(line)
            self.assertIs(type(caught.exception), error, line)
        return caught.exception

    def test_changes_and_answers(self):
        desk = Desk(TRIPLE)
        self.answers(
            desk, ("lay -3 4 a.2b//a", "done"), ("floor", "-3 4 a.2b//a"), ("painted", "4"), ("colour -1 4", "2"),
            ("stand 5 -6 2 0", "done"), ("walker", "5 -6 2 0"), ("go 5", "done"), ("steps", "5"), ("undo", "done"),
            ("steps", "0"), ("redo", "done"), ("steps", "5"), ("undo", "done"), ("undo", "done"), ("walker", "0 0 0 0"),
            ("undo", "done"), ("floor", "0 0 "), ("know 500 50", "street 39 18"), ("know 10 1", "unknown"),
            ("go 1" + "0" * 60, "done"), ("steps", "1" + "0" * 60))
        self.assertEqual(desk.ask("painted"), str(desk.session.painted()))
        self.assertEqual(desk.ask("walker"), " ".join(str(part) for part in desk.session.walker()))

    def test_each_kind_of_line(self):
        desk = Desk(TRIPLE)
        self.assertIs(type(desk.session), Session)
        self.answers(
            desk, ("walker", "0 0 0 0"), ("floor", "0 0 "), ("painted", "0"), ("steps", "0"), ("table", "1r0 2r0 0l0"),
            ("put 2 -1 2", "done"), ("colour 2 -1", "2"), ("colour -2 1", "0"), ("floor", "2 -1 b"), ("painted", "1"))
        self.assertEqual(desk.session.floor(), ((2, -1, 2),))
        desk.session.put((2, -1), 0)
        self.answers(desk, ("floor", "0 0 "), ("undo", "done"), ("floor", "2 -1 b"))
        self.assertEqual(Desk((((0, 2, 1), None), ((1, 0, 0), (1, 1, 1)))).ask("table"), "0b1 - / 1a0 1r1")

    def test_papers(self):
        desk = Desk(STRAIGHT)
        self.answers(desk, ("know 1 1", "unknown"), ("know 2 1", "street 0 1"))
        desk = Desk((((1, 1, 0), (0, 1, 0)),))
        self.answers(desk, ("know 200 20", "round 0 8"), ("go 10", "done"), ("walker", "1 1 2 0"),
                     ("painted", "2"))
        desk = Desk((((0, 0, 0), None),))
        self.answers(desk, ("put 0 -3 1", "done"), ("know 10 1", "stops 3"), ("go 3", "done"), ("walker", "0 -3 0 0"))

    def test_floors(self):
        desk = Desk(TRIPLE)
        self.answers(
            desk, ("lay 0 0 ", "done"), ("floor", "0 0 "), ("lay 5 6 ./.a", "done"), ("floor", "6 7 a"),
            ("lay 5 6 ", "done"), ("floor", "0 0 "), ("lay -1 -1 03a1b.//./", "done"), ("floor", "-1 -1 3ab"),
            (f"lay {FAR} {-FAR} a", "done"), ("floor", f"{FAR} {-FAR} a"))

    def test_lines_that_are_nearly_one(self):
        desk = Desk(TRIPLE)
        desk.ask("go 3")
        desk.ask("undo")
        self.refused(desk, Unasked, "", " ", "x", "help", "Walker", "WALKER", "walkers", "walk", "done", "refused", "unknown",
                     "put", "put 1", "put 1 2", "put 1 2 3 4", "put 1, 2 3", "lay", "lay 1", "lay 1 2", "lay 1 2 a a",
                     "lay 1 a", "lay a 1 2", "lay x 0 !", "stand 1 2 3", "stand 1 2 3 0 0", "go", "go 1 2", "go on",
                     "undo 1", "redo 0", "know", "know 5", "know 5 5 5", "walker 0", "colour", "colour 1", "colour 1 2 3",
                     "painted 1", "steps 1", "floor 1", "table 1", "1 2 put", "go\t3", "go\n3", "go 3\n", "go 3\r")
        for line in WORDS:
            self.refused(desk, Unasked, " " + line, line + " ", "  " + line, line.replace(" ", "  ") + " ",
                         line.upper(), line.capitalize(), "/" + line, line + " 1", line.split(" ")[0] + "\n")
        for number in ("", "-", "+1", "-0", "00", "01", "-01", "--1", "1-", "1_0", "1.0", "0x1", "\u0661", "\u00b2",
                       "\uff11", "one", "1,", "None", "9" * 62, "-" + "9" * 62, "1" + "0" * 61, "1" * 5000):
            self.refused(desk, Unasked, f"go {number}", f"put {number} 0 1", f"put 0 {number} 1", f"put 0 0 {number}",
                         f"lay {number} 0 a", f"lay 0 {number} a", f"stand {number} 0 0 0", f"stand 0 {number} 0 0",
                         f"stand 0 0 {number} 0", f"stand 0 0 0 {number}", f"know {number} 1", f"know 1 {number}",
                         f"colour {number} 0", f"colour 0 {number}")
        # None of these has come between.
        self.answers(desk, ("redo", "done"), ("steps", "3"))

    def test_numbers_of_61_figures(self):
        desk = Desk(STRAIGHT)
        large = "9" * 61
        self.refused(desk, BadNumber, f"go {large}", f"go -{large}", "go -1", f"put 0 0 {large}", f"know {large} 1",
                     f"know 1 -{large}")
        self.refused(desk, BadPlace, f"put {large} 0 1", f"put 0 -{large} 1", f"colour {large} 0", f"lay {large} 0 a",
                     f"lay 0 -{large} a", f"lay {FAR + 1} 0 a")
        self.refused(desk, BadWalker, f"stand {large} 0 0 0", f"stand 0 0 {large} 0", f"stand 0 0 0 -{large}")
        self.answers(desk, (f"put {FAR} {-FAR} 1", "done"), (f"colour {FAR} {-FAR}", "1"),
                     (f"stand {-FAR} {FAR} 2 0", "done"), ("know 5 1", "street 0 1"), (f"go {FAR}", "done"))

    def test_no_strings(self):
        desk = Desk(ANT)
        for line in (None, 5, True, (), ["walker"], ("walker",), {}, {"walker": 1}):
            self.refused(desk, NotText, line)

    def test_errors_of_the_session(self):
        desk = Desk(STRAIGHT)
        self.refused(desk, NothingToUndo, "undo", "redo")
        self.refused(desk, BadNumber, "put 0 0 2", "put 0 0 -1", "know 0 1", "know 30001 1", "know 1 0", "know 1 2001",
                     f"go {FAR + 1}")
        self.refused(desk, NoPaper, "go 100001", f"go {FAR}")
        self.refused(desk, BadWalker, "stand 0 0 4 0", "stand 0 0 -1 0", "stand 0 0 0 1", "stand 0 0 0 -1")
        self.assertEqual(self.refused(desk, BadFloor, "lay 0 0 aab").index, 2)
        self.assertEqual(self.refused(desk, BadFloor, f"lay {FAR} 0 3a").index, 1)
        self.answers(desk, ("know 5 1", "street 0 1"), ("go 100001", "done"))
        self.refused(desk, NoPaper, "floor", "put 0 0 1", "stand 0 0 0 0")
        desk = Desk((((0, 0, 0), None),))
        desk.ask("put 0 -3 1")
        self.refused(desk, Stopped, "go 4")
        desk = Desk(PAINTER)
        self.assertEqual(self.refused(desk, TooMany, "go 4001", "know 4001 1").most, 4000)
        with self.assertRaises(BadTable):
            Desk(((),))

    def test_texts_that_tell_no_floor(self):
        desk = Desk(ANT)
        for text, place in [("x", 0), ("a!", 1), ("2", 1), ("0a", 1), ("a/2/", 3), ("12345a", 5), ("9999a.a", 5), ("A", 0),
                            ("a\n", 1), ("4001a", 0)]:
            self.assertEqual(self.refused(desk, InvalidText, f"lay 0 0 {text}").place, place)

    def test_places_beyond_all(self):
        desk = Desk(PAINTER)
        self.answers(desk, (f"stand {FAR} 0 1 0", "done"), ("go 2", "done"), ("painted", "2"))
        self.refused(desk, BadWalker, "walker")
        self.assertEqual(self.refused(desk, BadFloor, "floor").index, 1)
        self.answers(desk, ("undo", "done"), ("walker", f"{FAR} 0 1 0"), ("go 1", "done"), ("floor", f"{FAR} 0 a"))

    def test_floors_that_are_too_wide(self):
        desk = Desk(ANT)
        self.answers(desk, ("put 0 0 1", "done"), ("put 9998 0 1", "done"), ("floor", "0 0 a9997.a"),
                     ("put 9999 0 1", "done"))
        self.assertEqual(self.refused(desk, TooMany, "floor").most, 9999)


class RunTest(unittest.TestCase):
    def test_answers(self):
        self.assertEqual(run("1r0 2r0 0l0", ()), ())
        lines = ("know 500 50", "go 57", "walker", "put 0 0 2", "steps", "colour 0 0", "undo", "undo", "steps", "table")
        walker = " ".join(str(part) for part in plain_stands(TRIPLE, (), (0, 0, 0, 0), 57)[57][1])
        self.assertEqual(run("1r0 2r0 0l0", lines),
                         ("street 39 18", "done", walker, "done", "0", "2", "done", "done", "0", "1r0 2r0 0l0"))

    def test_each_run_has_a_new_desk(self):
        for _ in range(2):
            self.assertEqual(run("1r0 0l0", ("undo", "go 5", "steps")), ("refused", "done", "5"))

    def test_lines_that_are_refused(self):
        lines = ("undo", "redo", "go", "go x", "", "GO 1", "go 100001", f"go {FAR + 1}", "put 0 0 2", f"put {FAR + 1} 0 1",
                 "lay 0 0 !", "lay 0 0 b", "stand 0 0 4 0", "know 0 1", None, 5, True, (), ["steps"], {})
        for line in lines:
            self.assertEqual(run("1r0 0l0", ("go 1", line, "steps")), ("done", "refused" if line != "undo" else "done",
                                                                       "1" if line != "undo" else "0"))
            if line != "undo":
                self.assertEqual(run("1r0 0l0", (line,)), ("refused",))
        self.assertEqual(run("1r0 0l0", lines), ("refused",) * len(lines))
        self.assertEqual(run(HALTS, ("put 0 -3 1", "go 4", "go 3", "go 1")), ("done", "refused", "done", "refused"))
        self.assertEqual(run("1a0 1a0", ("go 4001", "go 4000")), ("refused", "done"))
        self.assertEqual(run("1a0 1a0", (f"stand 0 {-FAR} 0 0", "go 1", "walker", "floor")),
                         ("done", "done", "refused", f"0 {-FAR} a"))
        self.assertEqual(run("1r0 0l0", ("put 0 0 1", "put 0 9999 1", "floor")), ("done", "done", "refused"))

    def test_how_many_lines(self):
        self.assertEqual(run("1r0 0l0", ("steps",) * 1000), ("0",) * 1000)
        answers = run("1r0 0l0", ("go 1",) * 999 + ("steps",))
        self.assertEqual(answers, ("done",) * 999 + ("999",))
        for lines in [("steps",) * 1001, None, 5, True, "steps", [], ["steps"], {}, {"steps": 1}]:
            with self.assertRaises(NotText):
                run("1r0 0l0", lines)

    def test_tables(self):
        for text in (None, 5, True, (), ["1r0 0l0"], ANT):
            with self.assertRaises(NotText):
                run(text, ())
        for text, place in [("", 0), ("1r0", 0), ("1r0 x", 4), ("1r0 0l0 ", 8), ("1r0 2l0", 0), ("1r0 0l1", 0)]:
            for lines in ((), None, ("steps",) * 1001):
                with self.assertRaises(InvalidText) as caught:
                    run(text, lines)
                self.assertEqual(caught.exception.place, place)


if __name__ == "__main__":
    unittest.main()
