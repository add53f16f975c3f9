"""What is asked of lines and of rings alike, by the shape."""

from crewstep.forms import form_of
from crewstep.people import check_line, check_ring
from crewstep.ringforms import ring_form_of
from crewstep.ringsteps import ring_after_walk
from crewstep.ringways import ring_why_not
from crewstep.steps import after_walk
from crewstep.ways import why_not

LINE = "line"
RING = "ring"


def check_people(roster, shape, people):
    """Raise InvalidPeople if the object is not a line (a ring) of the roster."""
    if shape == RING:
        check_ring(roster, people)
    else:
        check_line(roster, people)


def form_by_shape(roster, shape, people):
    """Return the form of a line (a ring)."""
    return ring_form_of(roster, people) if shape == RING else form_of(roster, people)


def after_walk_by_shape(roster, shape, people, walk):
    """Return the line (the ring) after a walk."""
    if shape == RING:
        return ring_after_walk(roster, people, walk)
    return after_walk(roster, people, walk)


def why_not_by_shape(roster, shape, start, goal):
    """Return None if the one line (ring) can be walked to the other, otherwise a reason."""
    return ring_why_not(roster, start, goal) if shape == RING else why_not(roster, start, goal)
