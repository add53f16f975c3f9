"""Newcomers: the shortest words that make a line have a core or a class."""

from crewstep.errors import InvalidForm
from crewstep.forms import is_form, standard_line
from crewstep.people import check_line, counts_of
from crewstep.ranks import check_word, words_on
from crewstep.readings import core_of


def newcomers(roster, line, core, *, front=False):
    """Return the shortest word behind the line (in front of it) that makes the core, or None."""
    check_line(roster, line)
    check_word(roster, core)
    if core_of(roster, core) != core:
        raise InvalidForm("core")
    if not front:
        return _shortest(roster, line, core)
    # Readings are the same in both directions.
    word = _shortest(roster, line[::-1], core[::-1])
    return None if word is None else word[::-1]


def completion(roster, line, goal):
    """Return a word behind the line that makes a line which can be walked to the goal, or None."""
    there = counts_of(roster, line)
    counts = tuple([count - many for count, many in zip(counts_of(roster, goal), there)])
    # Every word that makes the core has the shortest one as its own core.
    form = (counts, newcomers(roster, line, core_of(roster, goal)))
    return standard_line(roster, form) if is_form(roster, form) else None


def _shortest(roster, line, core):
    words = [word for _, word in words_on(roster, core_of(roster, line), core)]
    return min(words, key=len, default=None)
