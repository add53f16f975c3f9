"""Rosters, walks and sessions from their texts."""

from crewstep.edits import MAX_NAMES, is_name
from crewstep.errors import InvalidText
from crewstep.people import MAX_PEOPLE, is_line, is_ring
from crewstep.rosters import is_roster
from crewstep.shapes import LINE, RING
from crewstep.steps import MAX_WALK
from crewstep.yards import yard_with

SIDES = {">": 1, "<": -1}


def parse_roster(text):
    """Return the roster that has this text."""
    _check_string(text)
    roster = tuple([(word[:1], number_of(word[1:])) for word in text.split(" ")])
    if not is_roster(roster):
        raise InvalidText(0)
    return roster


def parse_walk(text):
    """Return the walk that has this text."""
    _check_string(text)
    if text == "-":
        return ()
    walk = tuple([step_of(word) for word in text.split(" ")])
    if None in walk or len(walk) > MAX_WALK:
        raise InvalidText(0)
    return walk


def parse_yard(text):
    """Return the session, without history, that has this text."""
    _check_string(text)
    first, *rows = text.split("\n")
    roster = parse_roster(first)
    table = {}
    last = ""
    for index, row in enumerate(rows, start=1):
        words = row.split(" ")
        if len(table) == MAX_NAMES or not _is_row(roster, words) or words[1] <= last:
            raise InvalidText(index)
        shape, last, word = words
        table[last] = (shape, people_of(word))
    return yard_with(roster, table)


def number_of(word):
    """Return the integer of one or two digits that has this text, or None."""
    if not word.isdecimal() or len(word) > 2 or str(int(word)) != word:
        return None
    return int(word)


def step_of(word):
    """Return the step that has this text, or None."""
    place = number_of(word[:-1])
    side = SIDES.get(word[-1:])
    if place is None or place >= MAX_PEOPLE or side is None:
        return None
    return (place, side)


def people_of(word):
    """Return the string that a word stands for as the text of a line or ring."""
    return "" if word == "-" else word


def _check_string(thing):
    if not isinstance(thing, str):
        raise InvalidText(0)


def _is_row(roster, words):
    """Tell whether the words are those of a name and a line or ring of the roster."""
    # Two spaces side by side make an empty word, which is not the text of the empty line.
    if len(words) != 3 or "" in words:
        return False
    shape, name, word = words
    if not is_name(name):
        return False
    if shape == RING:
        return is_ring(roster, people_of(word))
    return shape == LINE and is_line(roster, people_of(word))
