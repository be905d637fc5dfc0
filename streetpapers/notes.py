"""The texts of papers and of walkers."""

from streetpapers.checks import check_text
from streetpapers.errors import BadPaper, InvalidText
from streetpapers.papers import is_paper
from streetpapers.tables import FIGURES, MOST_STATES
from streetpapers.walks import check_walker, is_walker

# As many as 10 ** 60 has.
MOST_FIGURES = 61


def write_paper(paper):
    """Return the text of a paper."""
    if not is_paper(paper):
        raise BadPaper("the value is no paper")
    return " ".join([str(part) for part in paper])


def write_walker(walker):
    """Return the text of a walker of any table."""
    check_walker(walker, MOST_STATES)
    return " ".join([str(part) for part in walker])


def read_paper(text):
    """Return the paper that a text tells."""
    check_text(text)
    words = text.split(" ")
    paper = (words[0], *[whole_of(word) for word in words[1:]])
    if not is_paper(paper):
        raise InvalidText(0)
    return paper


def read_walker(text):
    """Return the walker that a text tells."""
    check_text(text)
    walker = tuple([whole_of(word) for word in text.split(" ")])
    if not is_walker(walker, MOST_STATES):
        raise InvalidText(0)
    return walker


def whole_of(word):
    """Return the integer that a word of plain figures tells, None for another word or one too long."""
    figures = word.removeprefix("-")
    if not 1 <= len(figures) <= MOST_FIGURES or any([sign not in FIGURES for sign in figures]):
        return None
    if figures[0] == "0" and word != "0":
        return None
    return int(word)
