"""Steps and walks of rings: places are computed modulo the number of people."""

from crewstep.errors import NotPossible
from crewstep.people import check_ring, turned
from crewstep.steps import after_step, check_walk, is_crew_at, is_possible, opposite, steps_to_try


def ring_crews_at(roster, ring):
    """Return all places of the ring at which a crew stands, ascending."""
    check_ring(roster, ring)
    sizes = dict(roster)
    lines = [turned(roster, ring, -place) for place in range(len(ring))]
    return tuple([place for place, line in enumerate(lines) if is_crew_at(sizes, line, 0)])


def ring_steps_of(roster, ring, *, badge=None):
    """Return all possible steps, ascending; with a badge, only those of its crews."""
    check_ring(roster, ring)
    steps = steps_to_try(roster, ring, badge)
    return tuple([step for step in steps if _after_ring_step(roster, ring, step) is not None])


def ring_after_walk(roster, ring, walk):
    """Return the ring after a walk; raise NotPossible at its first step that is not possible."""
    check_ring(roster, ring)
    check_walk(walk)
    for index, step in enumerate(walk):
        ring = _after_ring_step(roster, ring, step)
        if ring is None:
            raise NotPossible(index)
    return ring


def ring_undo_walk(roster, ring, walk):
    """Return the walk that leads from the ring after a walk back to the ring."""
    # Asked for its errors alone.
    ring_after_walk(roster, ring, walk)
    back = [opposite(step) for step in reversed(walk)]
    return tuple([(place % len(ring), side) for place, side in back])


def _after_ring_step(roster, ring, step):
    """Return the ring after a step, or None if the step is not possible."""
    place, side = step
    # A step may name a place that only larger rings have.
    if place >= len(ring):
        return None
    # Whoever of crew and neighbour stands first begins a line, on which the step is the same.
    first = place if side == 1 else place - 1
    line = turned(roster, ring, -first)
    step = (place - first, side)
    sizes = dict(roster)
    if not is_possible(sizes, line, step):
        return None
    return turned(roster, after_step(sizes, line, step), first)
