"""Steps and walks of lines: a complete crew changes places with one neighbour."""

from crewstep.errors import InvalidWalk, NotPossible
from crewstep.people import MAX_PEOPLE, check_line
from crewstep.rosters import size_of
from crewstep.values import is_int

MAX_WALK = 1000


def crews_at(roster, line):
    """Return all places at which a crew stands, ascending."""
    check_line(roster, line)
    sizes = dict(roster)
    return tuple([place for place in range(len(line)) if is_crew_at(sizes, line, place)])


def steps_of(roster, line, *, badge=None):
    """Return all possible steps, ascending; with a badge, only those of its crews."""
    check_line(roster, line)
    sizes = dict(roster)
    steps = steps_to_try(roster, line, badge)
    return tuple([step for step in steps if is_possible(sizes, line, step)])


def after_walk(roster, line, walk):
    """Return the line after a walk; raise NotPossible at its first step that is not possible."""
    check_line(roster, line)
    check_walk(walk)
    sizes = dict(roster)
    for index, step in enumerate(walk):
        if not is_possible(sizes, line, step):
            raise NotPossible(index)
        line = after_step(sizes, line, step)
    return line


def undo_walk(roster, line, walk):
    """Return the walk that leads from the line after a walk back to the line."""
    # Asked for its errors alone.
    after_walk(roster, line, walk)
    return tuple([opposite(step) for step in reversed(walk)])


def check_walk(walk):
    """Raise InvalidWalk if the object is not a tuple of at most 1000 steps."""
    if not isinstance(walk, tuple) or len(walk) > MAX_WALK:
        raise InvalidWalk(None)
    for index, item in enumerate(walk):
        if not _is_step(item):
            raise InvalidWalk(index)


def steps_to_try(roster, people, badge):
    """Return the steps, ascending, from the places of people with the badge; of all people for None."""
    if badge is not None:
        # Asked for its error alone.
        size_of(roster, badge)
    places = [place for place, person in enumerate(people) if badge is None or person == badge]
    return [(place, side) for place in places for side in (-1, 1)]


def opposite(step):
    """Return the step that undoes a step of a line."""
    place, side = step
    return (place + side, -side)


def is_crew_at(sizes, line, place):
    """Tell whether a crew stands at a place of the line."""
    badge = line[place]
    size = sizes[badge]
    return size > 0 and line[place:place + size] == badge * size


def is_possible(sizes, line, step):
    """Tell whether a step is possible on the line."""
    place, side = step
    # A step may name a place that only longer lines have.
    if place >= len(line) or not is_crew_at(sizes, line, place):
        return False
    beside = place - 1 if side == -1 else place + sizes[line[place]]
    return 0 <= beside < len(line) and line[beside] != line[place]


def after_step(sizes, line, step):
    """Return the line after a step that is possible."""
    place, side = step
    end = place + sizes[line[place]]
    crew = line[place:end]
    if side == 1:
        return line[:place] + line[end] + crew + line[end + 1:]
    return line[:place - 1] + crew + line[place - 1] + line[end:]


def _is_step(thing):
    return isinstance(thing, tuple) and len(thing) == 2 and _is_place(thing[0]) and _is_side(thing[1])


def _is_place(thing):
    return is_int(thing) and 0 <= thing < MAX_PEOPLE


def _is_side(thing):
    return is_int(thing) and thing in (1, -1)
