"""Readings of rings: which crews can be taken out, and who is left."""

from math import gcd

from crewstep.people import check_ring, counts_of
from crewstep.readings import left_after, people_at
from crewstep.ringsteps import ring_crews_at


def ring_reading_of(roster, ring):
    """Return a complete reading of the ring."""
    check_ring(roster, ring)
    deletions, _ = _read(roster, ring)
    return tuple(deletions)


def ring_left_by(roster, ring, reading):
    """Return the places of the people who are left after a reading of the ring, ascending."""
    check_ring(roster, ring)
    return left_after(roster, ring, reading, True)


def ring_is_complete(roster, ring, reading):
    """Tell whether no other deletion is valid after the reading."""
    left = ring_left_by(roster, ring, reading)
    return _deletion_among(roster, ring, left) is None


def ring_core_of(roster, ring):
    """Return the least rotation of the people who are left after a complete reading."""
    check_ring(roster, ring)
    _, left = _read(roster, ring)
    return least_rotation(people_at(ring, left))


def ring_crew_counts(roster, ring):
    """Return the number of crews of each badge, in the order of the roster."""
    deletions = ring_reading_of(roster, ring)
    # One person of each crew stands for it.
    return counts_of(roster, people_at(ring, [deletion[0] for deletion in deletions]))


def divisor_of(roster, ring):
    """Return the divisor of the ring."""
    crews = ring_crew_counts(roster, ring)
    return common_divisor(roster, len(ring), crews)


def common_divisor(roster, many, crews):
    """Return the greatest common divisor of a number of people and the sizes that have crews."""
    divisor = many
    for (_, size), crew_count in zip(roster, crews):
        if crew_count > 0:
            divisor = gcd(divisor, size)
    return divisor


def least_rotation(word):
    """Return the alphabetically least rotation of a word."""
    return min([word[by:] + word[:by] for by in range(len(word))], default="")


def _read(roster, ring):
    """Return the deletions of a complete reading, and the places of those who are left."""
    deletions = []
    left = list(range(len(ring)))
    deletion = _deletion_among(roster, ring, left)
    while deletion is not None:
        deletions.append(deletion)
        left = [place for place in left if place not in deletion]
        deletion = _deletion_among(roster, ring, left)
    return deletions, left


def _deletion_among(roster, ring, left):
    """Return a deletion that is valid when these places are left, or None."""
    # Nobody is no ring.
    crews = ring_crews_at(roster, people_at(ring, left)) if left else ()
    if not crews:
        return None
    first = crews[0]
    size = dict(roster)[ring[left[first]]]
    return tuple((left + left)[first:first + size])
