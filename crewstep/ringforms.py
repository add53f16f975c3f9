"""Forms of rings: counts, core and residue, which tell a class from every other class."""

from math import gcd

from crewstep.errors import InvalidForm
from crewstep.forms import are_counts, crews_beside, leaves_crews, standard_line
from crewstep.people import counts_of, is_line, turned
from crewstep.readings import people_at
from crewstep.ringreadings import common_divisor, divisor_of, least_rotation, ring_left_by, ring_reading_of
from crewstep.ringsteps import ring_crews_at
from crewstep.rosters import check_roster
from crewstep.values import is_int


def check_ring_form(roster, form):
    """Raise InvalidForm if the object is not a form of a ring."""
    check_roster(roster)
    if not isinstance(form, tuple) or len(form) != 3:
        raise InvalidForm("form")
    counts, core, residue = form
    if not are_counts(roster, counts) or sum(counts) == 0:
        raise InvalidForm("counts")
    if not _is_ring_core(roster, core) or not leaves_crews(roster, counts, core):
        raise InvalidForm("core")
    if not is_int(residue) or not 0 <= residue < _turn_of(roster, counts, core):
        raise InvalidForm("residue")


def is_ring_form(roster, thing):
    """Tell whether the object is a form of a ring."""
    try:
        check_ring_form(roster, thing)
    except InvalidForm:
        return False
    return True


def ring_form_of(roster, ring):
    """Return the form of the ring."""
    divisor = divisor_of(roster, ring)
    left = ring_left_by(roster, ring, ring_reading_of(roster, ring))
    people = people_at(ring, left)
    core = least_rotation(people)
    residues = [place % divisor for by, place in enumerate(left) if people[by:] + people[:by] == core]
    return (counts_of(roster, ring), core, min(residues, default=0))


def standard_ring(roster, form):
    """Return the ring of the core, from the residue on, and behind it all crews as blocks."""
    check_ring_form(roster, form)
    counts, core, residue = form
    return turned(roster, standard_line(roster, (counts, core)), residue)


def least_turn(roster, form):
    """Return the turn of a form of a ring."""
    check_ring_form(roster, form)
    counts, core, _ = form
    return _turn_of(roster, counts, core)


def rings_alike(roster, form):
    """Return all forms of rings with the same counts and core, in the order of the residue."""
    turn = least_turn(roster, form)
    counts, core, _ = form
    return tuple([(counts, core, residue) for residue in range(turn)])


def period_of(core):
    """Return the least number of letters, at least 1, that can go to the core's end without changing it."""
    return min([by for by in range(1, len(core) + 1) if core[by:] + core[:by] == core])


def _is_ring_core(roster, thing):
    if not is_line(roster, thing):
        return False
    return thing == "" or thing == least_rotation(thing) and not ring_crews_at(roster, thing)


def _turn_of(roster, counts, core):
    if core == "":
        return 1
    divisor = common_divisor(roster, sum(counts), crews_beside(roster, counts, core))
    return gcd(divisor, period_of(core))
