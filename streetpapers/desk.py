"""Desks: sessions that are asked by lines."""

from streetpapers.checks import check_text
from streetpapers.errors import NotText, Unasked, WalkError
from streetpapers.floors import moved, read_floor, write_floor
from streetpapers.notes import whole_of, write_paper, write_walker
from streetpapers.sessions import Session
from streetpapers.tables import read_table, write_table

MOST_LINES = 1000
# How many numbers follow the first word of a line.
NUMBERS = {
    "put": 3, "lay": 2, "stand": 4, "go": 1, "undo": 0, "redo": 0, "know": 2, "walker": 0, "colour": 2,
    "painted": 0, "steps": 0, "floor": 0, "table": 0,
}
CHANGES = ("put", "lay", "stand", "go", "undo", "redo")


class Desk:
    """A session that is asked by lines."""

    def __init__(self, table):
        self.session = Session(table)

    def ask(self, line):
        """Do what a line asks for, and return the answer."""
        check_text(line)
        word, numbers, text = _parts(line)
        if word in CHANGES:
            self._change(word, numbers, text)
            return "done"
        if word == "know":
            paper = self.session.know(numbers[0], numbers[1])
            return "unknown" if paper is None else write_paper(paper)
        return self._told(word, numbers)

    def _change(self, word, numbers, text):
        if word == "put":
            self.session.put((numbers[0], numbers[1]), numbers[2])
        elif word == "lay":
            self.session.lay(moved(read_floor(text), (numbers[0], numbers[1])))
        elif word == "stand":
            self.session.stand(tuple(numbers))
        elif word == "go":
            self.session.go(numbers[0])
        elif word == "undo":
            self.session.undo()
        else:
            self.session.redo()

    def _told(self, word, numbers):
        if word == "walker":
            return write_walker(self.session.walker())
        if word == "colour":
            return str(self.session.colour((numbers[0], numbers[1])))
        if word == "painted":
            return str(self.session.painted())
        if word == "steps":
            return str(self.session.steps())
        if word == "floor":
            text, (x, y) = write_floor(self.session.floor())
            return f"{x} {y} {text}"
        return write_table(self.session.table)


def run(text, lines):
    """Return the answers of a new desk of a table's text to lines, those that raise an error being refused."""
    desk = Desk(read_table(text))
    if not isinstance(lines, tuple) or len(lines) > MOST_LINES:
        raise NotText("a tuple of at most 1000 lines is wanted")
    return tuple([_answer(desk, line) for line in lines])


def _answer(desk, line):
    try:
        return desk.ask(line)
    except WalkError:
        return "refused"


def _parts(line):
    """Return the word, the numbers and the text, None for most, of a line."""
    words = line.split(" ")
    if words[0] not in NUMBERS:
        raise Unasked("the line begins with no word that is known")
    many = NUMBERS[words[0]]
    numbers = [whole_of(word) for word in words[1:many + 1]]
    if len(numbers) < many or None in numbers:
        raise Unasked("the line lacks a number")
    texts = words[many + 1:]
    if len(texts) != (1 if words[0] == "lay" else 0):
        raise Unasked("the line has too many words or too few")
    return (words[0], numbers, texts[0] if texts else None)
