"""Ways between rings: why there is none, or a walk."""

from crewstep.errors import NotReachable
from crewstep.forms import standard_line
from crewstep.people import turned
from crewstep.readings import core_of
from crewstep.ringforms import ring_form_of
from crewstep.ringreadings import divisor_of
from crewstep.ringsteps import ring_crews_at
from crewstep.rosters import size_of
from crewstep.ways import difference, way_between


def ring_why_not(roster, start, goal):
    """Return None if the ring start can be walked to the ring goal, otherwise a reason."""
    first = ring_form_of(roster, start)
    second = ring_form_of(roster, goal)
    if first[:2] == second[:2] and first[2] != second[2]:
        return ("residue", divisor_of(roster, start), first[2], second[2])
    return difference(roster, first, second)


def ring_way_between(roster, start, goal):
    """Return a walk of rings from the start to the goal of at most 6 * n * n steps; n people stand there.

    As lines, from well chosen places on, both can be walked to one standard line, in at most
    n * n steps each. Between the two, that line is walked around the ring: at most n / 2 crews
    go once around, past fewer than n people each.
    """
    reason = ring_why_not(roster, start, goal)
    if reason is not None:
        raise NotReachable(reason)
    many = len(start)
    counts, core, residue = ring_form_of(roster, start)
    here = _beginning(roster, start, core, residue)
    there = _beginning(roster, goal, core, residue)
    first = turned(roster, start, -here)
    last = turned(roster, goal, -there)
    if here == there:
        return _moved(way_between(roster, first, last), here, many)
    standard = standard_line(roster, (counts, core))
    forth = way_between(roster, first, standard)
    around = _way_around(roster, standard, there - here)
    back = way_between(roster, standard, last)
    return _moved(forth + around, here, many) + _moved(back, there, many)


def _beginning(roster, ring, core, residue):
    """Return a place, which leaves the residue, from which on the ring is a line with this core."""
    # No crew of a reading goes past the people it leaves, so one of them stands at such a place.
    # If it leaves nobody, every place is such a place.
    places = range(residue, len(ring), divisor_of(roster, ring))
    return [place for place in places if core_of(roster, turned(roster, ring, -place)) == core][0]


def _moved(walk, by, many):
    """Return the walk for the ring that is turned by so many places."""
    return tuple([((place + by) % many, side) for place, side in walk])


def _way_around(roster, ring, by):
    """Return a walk from the ring to itself turned, with as few laps as possible.

    Each badge that has a crew has one that stands.
    """
    many = len(ring)
    laps = _laps(roster, ring)
    ways = {0: ()}
    front = [0]
    while by % many not in ways:
        reached = []
        for before in front:
            for turn, lap in laps:
                after = (before + turn) % many
                if after not in ways:
                    ways[after] = ways[before] + _moved(lap, before, many)
                    reached.append(after)
        front = reached
    return ways[by % many]


def _laps(roster, ring):
    """Return for each crew that stands, in both directions: how a lap turns the ring, and the lap.

    A crew that went to the right, past everybody else, took them to the left by as many places as
    it has people, and has come as many places before the place where it began.
    """
    laps = []
    for place in ring_crews_at(roster, ring):
        size = size_of(roster, ring[place])
        for side in (1, -1):
            laps.append((-side * size, _lap(ring, place, size, side)))
    return laps


def _lap(ring, place, size, side):
    many = len(ring)
    beside = place + size if side == 1 else place - 1
    # A person with the crew's own badge needs no step: the crew also stands one place further on.
    passed = [past for past in range(many - size) if ring[(beside + side * past) % many] != ring[place]]
    # Whoever moves the lap computes the places modulo the number of people.
    return [(place + side * past, side) for past in passed]
