"""Names, and the edits that change the lines and rings which have them."""

MAX_NAMES = 8
MAX_LETTERS = 8

# How many items an edit with this first item has.
LENGTHS = {
    "line": 3, "ring": 3, "drop": 2, "step": 4, "walk": 3, "enter": 4, "leave": 3, "close": 2,
    "cut": 3, "join": 3, "part": 4,
}


def is_edit(thing):
    """Tell whether the object is an edit, by its first item and its length alone."""
    if not isinstance(thing, tuple) or len(thing) == 0 or not isinstance(thing[0], str):
        return False
    return LENGTHS.get(thing[0]) == len(thing)


def is_name(thing):
    """Tell whether the object is a name."""
    if not isinstance(thing, str) or not 1 <= len(thing) <= MAX_LETTERS:
        return False
    return all(["a" <= letter <= "z" for letter in thing])
