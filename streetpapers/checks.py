"""What several modules ask of their arguments."""

from streetpapers.errors import BadNumber, BadPlace, NotText

FAR = 10 ** 60


def is_whole(value, least, greatest):
    """Tell whether a value is an integer from least to greatest, True and False being none."""
    if not isinstance(value, int) or isinstance(value, bool):
        return False
    return least <= value <= greatest


def is_place(value):
    """Tell whether a value is a place."""
    if not isinstance(value, tuple) or len(value) != 2:
        return False
    return is_whole(value[0], -FAR, FAR) and is_whole(value[1], -FAR, FAR)


def check_number(value, least, greatest):
    """Raise BadNumber for no integer from least to greatest."""
    if not is_whole(value, least, greatest):
        raise BadNumber(f"an integer from {least} to {greatest} is wanted")


def check_place(value):
    """Raise BadPlace for no place."""
    if not is_place(value):
        raise BadPlace("a pair of integers from -10 ** 60 to 10 ** 60 is wanted")


def check_text(value):
    """Raise NotText for no string."""
    if not isinstance(value, str):
        raise NotText("a string is wanted")
