"""Plans read from their texts."""

from streetpapers.checks import check_text
from streetpapers.errors import BadLine
from streetpapers.plans import BLOCKS, DEEPEST, MOST_PARTS, TURN_WORDS, number_limits
from streetpapers.tables import FEWEST_COLOURS, MOST_COLOURS


def read_plan(text):
    """Return the plan that a text tells."""
    check_text(text)
    lines = text.split("\n")
    draft = Draft()
    for at, line in enumerate(lines):
        words = [word for word in line.split(" ") if word != ""]
        wrong = draft.take(words) if words else 0
        if wrong > 0:
            raise BadLine(at + 1, wrong)
    if not draft.is_done():
        raise BadLine(len(lines) + 1, 1)
    return draft.plan()


class Draft:
    """A plan under way: its number of colours, how many parts have begun, and those that lack their end.

    Of each of the latter are kept its word and number, and its blocks so far, as lists. The first one is the plan.
    """

    def __init__(self):
        self.colours = None
        self.parts = 0
        self.begun = [((), [[]])]

    def take(self, words):
        """Take a line's words, or tell which one, from 1 on, is the first that cannot stand; 0 for none."""
        if not self._may_begin(words[0]):
            return 1
        choices = self._choices(words[0])
        if choices and (len(words) == 1 or words[1] not in choices):
            return 2
        allowed = 2 if choices else 1
        if len(words) > allowed:
            return allowed + 1
        self._add(words[0], [choices[word] for word in words[1:]])
        return 0

    def is_done(self):
        """Tell whether the plan may end here."""
        return self.colours is not None and len(self.begun) == 1

    def plan(self):
        """Return the plan."""
        return (self.colours, tuple(self.begun[0][1][0]))

    def _may_begin(self, word):
        if self.colours is None:
            return word == "colours"
        if word == "end":
            return len(self.begun) > 1
        if word == "else":
            head, blocks = self.begun[-1]
            return head[:1] == ("if",) and len(blocks) == 1
        if word not in BLOCKS or self.parts == MOST_PARTS:
            return False
        return BLOCKS[word] == 0 or len(self.begun) < DEEPEST

    def _choices(self, word):
        """Return the words of which one has to stand second, each with its number; none where no word may."""
        if word == "turn":
            return {choice: at + 1 for at, choice in enumerate(TURN_WORDS)}
        limits = (FEWEST_COLOURS, MOST_COLOURS) if word == "colours" else number_limits(word, self.colours)
        if limits is None:
            return {}
        return {str(number): number for number in range(limits[0], limits[1] + 1)}

    def _add(self, word, numbers):
        if word == "colours":
            self.colours = numbers[0]
        elif word == "else":
            self.begun[-1][1].append([])
        elif word == "end":
            self._end()
        else:
            self.parts += 1
            if BLOCKS[word] > 0:
                self.begun.append(((word, *numbers), [[]]))
            else:
                self._put((word, *numbers))

    def _end(self):
        head, blocks = self.begun.pop()
        lacking = BLOCKS[head[0]] - len(blocks)
        self._put((*head, *[tuple(block) for block in blocks], *[() for _ in range(lacking)]))

    def _put(self, part):
        self.begun[-1][1][-1].append(part)
