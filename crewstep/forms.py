"""Forms of lines: counts and core, which tell a class from every other class."""

from crewstep.errors import Full, InvalidForm
from crewstep.people import MAX_PEOPLE, counts_of, is_line
from crewstep.readings import core_of
from crewstep.rosters import check_roster
from crewstep.values import is_int


def check_form(roster, form):
    """Raise InvalidForm if the object is not a form of a line."""
    check_roster(roster)
    if not isinstance(form, tuple) or len(form) != 2:
        raise InvalidForm("form")
    counts, core = form
    if not are_counts(roster, counts):
        raise InvalidForm("counts")
    if not _is_core(roster, core) or not leaves_crews(roster, counts, core):
        raise InvalidForm("core")


def is_form(roster, thing):
    """Tell whether the object is a form of a line."""
    try:
        check_form(roster, thing)
    except InvalidForm:
        return False
    return True


def form_of(roster, line):
    """Return the form of the line."""
    return (counts_of(roster, line), core_of(roster, line))


def standard_line(roster, form):
    """Return the line of the core and, behind it, all crews as blocks in the roster's order."""
    check_form(roster, form)
    counts, core = form
    blocks = [badge * (count - core.count(badge)) for (badge, _), count in zip(roster, counts)]
    return core + "".join(blocks)


def joined_form(roster, first, second):
    """Return the form of a line of the first form followed by a line of the second one."""
    check_form(roster, first)
    check_form(roster, second)
    counts = tuple([one + other for one, other in zip(first[0], second[0])])
    if sum(counts) > MAX_PEOPLE:
        raise Full(MAX_PEOPLE)
    return (counts, core_of(roster, first[1] + second[1]))


def are_counts(roster, thing):
    """Tell whether the object is the counts of at most 12 people with badges of the roster."""
    if not isinstance(thing, tuple) or len(thing) != len(roster):
        return False
    return all([is_int(count) and count >= 0 for count in thing]) and sum(thing) <= MAX_PEOPLE


def leaves_crews(roster, counts, core):
    """Tell whether for each badge the people who are not in the core make up whole crews."""
    for (badge, size), count in zip(roster, counts):
        rest = count - core.count(badge)
        if rest < 0 or rest > 0 and (size == 0 or rest % size != 0):
            return False
    return True


def crews_beside(roster, counts, word):
    """Return how many crews of each badge the people make up who are not in the word."""
    return tuple([
        (count - word.count(badge)) // size if size > 0 else 0
        for (badge, size), count in zip(roster, counts)
    ])


def _is_core(roster, thing):
    # No core is longer than a line, because its letters are among the counts.
    return is_line(roster, thing) and core_of(roster, thing) == thing
