"""Tables, by which walkers walk, and their texts."""

from streetpapers.checks import check_text, is_whole
from streetpapers.errors import BadTable, InvalidText

MOST_STATES = 10
FEWEST_COLOURS = 2
MOST_COLOURS = 6
FIGURES = "0123456789"
TURNS = "arbl"


def write_table(table):
    """Return the text of a table."""
    check_table(table)
    return " / ".join([" ".join([_word_of(entry) for entry in state]) for state in table])


def read_table(text):
    """Return the table whose text a text is."""
    check_text(text)
    states = [[]]
    place = 0
    for word in text.split(" "):
        if word == "/":
            states.append([])
        elif _is_word(word):
            states[-1].append(_entry_of(word))
        else:
            raise InvalidText(place)
        place += len(word) + 1
    table = tuple([tuple(state) for state in states])
    if not is_table(table):
        raise InvalidText(0)
    return table


def check_table(value):
    """Raise BadTable for no table."""
    if not is_table(value):
        raise BadTable("1 to 10 states are wanted, with 2 to 6 entries each, as many for one as for another")


def is_table(value):
    """Tell whether a value is a table."""
    if not isinstance(value, tuple) or not 1 <= len(value) <= MOST_STATES:
        return False
    for state in value:
        if not isinstance(state, tuple) or len(state) != len(value[0]):
            return False
        if not all([_is_entry(entry, len(state), len(value)) for entry in state]):
            return False
    return FEWEST_COLOURS <= len(value[0]) <= MOST_COLOURS


def _is_entry(value, colours, states):
    if value is None:
        return True
    if not isinstance(value, tuple) or len(value) != 3:
        return False
    paint, turn, state = value
    return is_whole(paint, 0, colours - 1) and is_whole(turn, 0, 3) and is_whole(state, 0, states - 1)


def _word_of(entry):
    if entry is None:
        return "-"
    paint, turn, state = entry
    return f"{paint}{TURNS[turn]}{state}"


def _is_word(word):
    if word == "-":
        return True
    return len(word) == 3 and word[0] in FIGURES and word[1] in TURNS and word[2] in FIGURES


def _entry_of(word):
    if word == "-":
        return None
    return (int(word[0]), TURNS.index(word[1]), int(word[2]))
