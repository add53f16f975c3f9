"""Shortest walks of lines in which at most one badge has crews."""

from crewstep.errors import NotReachable, SeveralCrews
from crewstep.readings import crew_counts
from crewstep.ways import why_not


def least_steps(roster, start, goal):
    """Return the least number of steps of a walk from the start to the goal."""
    return len(least_way(roster, start, goal))


def least_way(roster, start, goal):
    """Return a walk from the start to the goal with the least number of steps."""
    reason = why_not(roster, start, goal)
    if reason is not None:
        raise NotReachable(reason)
    crews = [entry for entry, many in zip(roster, crew_counts(roster, start)) if many > 0]
    if len(crews) > 1:
        raise SeveralCrews(crews[1][0])
    if not crews:
        # The start is its own core, so the goal is the same line.
        return ()
    badge, size = crews[0]
    return tuple(_way_of_crews(size, _stretches(badge, start), _stretches(badge, goal)))


def _stretches(badge, line):
    """Return how many people with the badge stand before, between and behind the others."""
    stretches = [0]
    for person in line:
        if person == badge:
            stretches[-1] += 1
        else:
            stretches.append(0)
    return stretches


def _way_of_crews(size, stretches, goals):
    """Return the least walk, as a list, that makes the stretches of one badge those of the goal.

    A step takes one crew past one of the others, into the next stretch. No crew stands in the way
    of another one, and crews need not overtake, so the first goes where the first is to be, and
    so on, each straight on.
    """
    starts = _crew_stretches(size, stretches)
    ends = _crew_stretches(size, goals)
    stretches = list(stretches)
    walk = []
    for here, there in zip(starts, ends):
        side = 1 if here < there else -1
        for stretch in range(here, there, side):
            # Before this stretch stand the ones before it and one other person behind each.
            place = sum(stretches[:stretch]) + stretch
            if side == 1:
                place += stretches[stretch] - size
            walk.append((place, side))
            stretches[stretch] -= size
            stretches[stretch + side] += size
    return walk


def _crew_stretches(size, stretches):
    """Return for each crew the stretch in which it stands, ascending."""
    return [stretch for stretch, many in enumerate(stretches) for _ in range(many // size)]
