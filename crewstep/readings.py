"""Readings of lines: which crews can be taken out, and who is left."""

from crewstep.errors import InvalidReading
from crewstep.people import check_line, counts_of
from crewstep.steps import crews_at
from crewstep.values import is_int


def reading_of(roster, line):
    """Return a complete reading of the line."""
    check_line(roster, line)
    deletions, _ = _read(dict(roster), line)
    return tuple(deletions)


def left_by(roster, line, reading):
    """Return the places of the people who are left after a reading, ascending."""
    check_line(roster, line)
    return left_after(roster, line, reading, False)


def is_complete(roster, line, reading):
    """Tell whether no other deletion is valid after the reading."""
    left = left_by(roster, line, reading)
    return not crews_at(roster, people_at(line, left))


def core_of(roster, line):
    """Return the string of the people who are left after a complete reading."""
    check_line(roster, line)
    _, left = _read(dict(roster), line)
    return people_at(line, left)


def crew_counts(roster, line):
    """Return the number of crews of each badge, in the order of the roster."""
    deletions = reading_of(roster, line)
    # One person of each crew stands for it.
    return counts_of(roster, people_at(line, [deletion[0] for deletion in deletions]))


def left_after(roster, people, reading, around):
    """Return the places of the people who are left after a reading, ascending.

    Around a ring, the last of those who are left is followed by the first.
    """
    if not isinstance(reading, tuple):
        raise InvalidReading(None)
    sizes = dict(roster)
    left = list(range(len(people)))
    for index, deletion in enumerate(reading):
        if not _is_valid(sizes, people, left, deletion, around):
            raise InvalidReading(index)
        left = [place for place in left if place not in deletion]
    return tuple(left)


def people_at(people, places):
    """Return the people at these places, in this order."""
    return "".join([people[place] for place in places])


def _read(sizes, line):
    """Return the deletions of a complete reading, and the places of those who are left."""
    deletions = []
    left = []
    for place, badge in enumerate(line):
        left.append(place)
        # No crew is left among those before this person, so a crew can only end here.
        crew = left[-max(sizes[badge], 1):]
        if _is_crew(sizes, line, crew):
            deletions.append(tuple(crew))
            del left[-len(crew):]
    return deletions, left


def _is_valid(sizes, people, left, deletion, around):
    if not _are_places(deletion) or deletion[0] not in left:
        return False
    row = left + left if around else left
    first = left.index(deletion[0])
    # Nobody is deleted twice, however often a deletion goes around.
    consecutive = len(deletion) <= len(left) and tuple(row[first:first + len(deletion)]) == deletion
    return consecutive and _is_crew(sizes, people, deletion)


def _are_places(thing):
    return isinstance(thing, tuple) and len(thing) > 0 and all([is_int(place) for place in thing])


def _is_crew(sizes, people, places):
    """Tell whether the people at these places, at least one, are of one badge and make a crew."""
    crew = people_at(people, places)
    return crew == crew[0] * sizes[crew[0]]
