"""Lines and rings: people with badges on numbered places."""

from crewstep.errors import InvalidPeople
from crewstep.rosters import badges_of

MAX_PEOPLE = 12


def check_line(roster, line):
    """Raise InvalidPeople if the object is not a line of the roster."""
    badges = badges_of(roster)
    if not isinstance(line, str) or len(line) > MAX_PEOPLE:
        raise InvalidPeople(None)
    for place, person in enumerate(line):
        if person not in badges:
            raise InvalidPeople(place)


def check_ring(roster, ring):
    """Raise InvalidPeople if the object is not a ring of the roster."""
    check_line(roster, ring)
    if not ring:
        raise InvalidPeople(None)


def is_line(roster, thing):
    """Tell whether the object is a line of the roster."""
    try:
        check_line(roster, thing)
    except InvalidPeople:
        return False
    return True


def is_ring(roster, thing):
    """Tell whether the object is a ring of the roster."""
    try:
        check_ring(roster, thing)
    except InvalidPeople:
        return False
    return True


def counts_of(roster, line):
    """Return the number of people for each badge, in the order of the roster."""
    check_line(roster, line)
    return tuple([line.count(badge) for badge in badges_of(roster)])


def turned(roster, ring, by):
    """Return the ring in which everybody stands `by` places further around."""
    check_ring(roster, ring)
    # The person who comes to place 0 is the one who stood `by` places before it.
    first = -by % len(ring)
    return ring[first:] + ring[:first]
