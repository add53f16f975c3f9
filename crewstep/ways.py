"""Ways between lines: why there is none, or a walk."""

from crewstep.errors import NotReachable
from crewstep.forms import form_of
from crewstep.steps import crews_at, opposite


def why_not(roster, start, goal):
    """Return None if the start can be walked to the goal, otherwise a reason."""
    first = form_of(roster, start)
    second = form_of(roster, goal)
    return difference(roster, first, second)


def way_between(roster, start, goal):
    """Return a walk from the start to the goal of at most 2 * n * n steps; n people stand there."""
    reason = why_not(roster, start, goal)
    if reason is not None:
        raise NotReachable(reason)
    forth = _way_to_standard(roster, start)
    back = _way_to_standard(roster, goal)
    # Both walks end at the same line: a last step that they share was made from the same line.
    while forth and back and forth[-1] == back[-1]:
        forth.pop()
        back.pop()
    return tuple(forth + [opposite(step) for step in reversed(back)])


def difference(roster, first, second):
    """Return the reason why two forms differ in their counts or cores, or None."""
    for (badge, _), one, other in zip(roster, first[0], second[0]):
        if one != other:
            return ("counts", badge)
    if first[1] == second[1]:
        return None
    return ("core", _first_difference(first[1], second[1]))


def _first_difference(one, other):
    shorter = min(len(one), len(other))
    for index in range(shorter):
        if one[index] != other[index]:
            return index
    return shorter


def _way_to_standard(roster, line):
    """Return, as a list, a walk from the line to the standard line of its form.

    Each crew walks once, to its place among the crews that are already behind the rest. It passes
    fewer than n people, and there are at most n crews: these are at most n * n steps.
    """
    sizes = dict(roster)
    walk = []
    rest = len(line)
    while crews := crews_at(roster, line[:rest]):
        # Of the crews in the rest, the last one has the fewest people to pass.
        place = crews[-1]
        end = place + sizes[line[place]]
        behind = len([other for other in line[rest:] if other < line[place]])
        passed = line[end:rest + behind]
        walk.extend(_steps_past(line[place], place, passed))
        line = line[:place] + passed + line[place:end] + line[rest + behind:]
        rest -= end - place
    return walk


def _steps_past(badge, place, passed):
    # A person with the crew's own badge needs no step: the crew also stands one place further on.
    return [(place + many, 1) for many, person in enumerate(passed) if person != badge]
