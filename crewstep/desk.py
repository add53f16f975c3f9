"""A desk: it answers commands on a session."""

from crewstep.edits import is_edit
from crewstep.errors import EmptyRing, Full, InvalidBadge, InvalidName, InvalidPeople, InvalidPlace
from crewstep.errors import NameTaken, NoName, NothingToUndo, NotPossible, NotReachable, WrongShape
from crewstep.parsing import number_of, parse_yard, people_of, step_of
from crewstep.ranks import rank_of
from crewstep.ringforms import least_turn
from crewstep.ringseries import ring_class_size
from crewstep.ringsteps import ring_steps_of
from crewstep.series import class_size
from crewstep.shapes import LINE, RING, why_not_by_shape
from crewstep.steps import steps_of
from crewstep.texts import people_text, walk_text, yard_text

# The other words of each command.
COMMANDS = {
    "line": ("NAME", "PEOPLE"), "ring": ("NAME", "PEOPLE"), "drop": ("NAME",),
    "step": ("NAME", "MOVE"), "walk": ("NAME", "PEOPLE"), "enter": ("NAME", "PLACE", "BADGE"),
    "leave": ("NAME", "PLACE"), "close": ("NAME",), "cut": ("NAME", "PLACE"),
    "join": ("NAME", "OTHER"), "part": ("NAME", "PLACE", "OTHER"), "undo": (), "redo": (),
    "form": ("NAME",), "size": ("NAME",), "steps": ("NAME",), "rank": ("NAME",),
    "turn": ("NAME",), "why": ("NAME", "PEOPLE"), "alike": ("NAME", "OTHER"), "show": (),
}


def _undo(yard):
    yard.undo()
    return "done"


def _redo(yard):
    yard.redo()
    return "done"


def _form(yard, name):
    counts, core, *residue = yard.form(name)
    words = [",".join([str(count) for count in counts]), people_text(core)]
    return " ".join(words + [str(number) for number in residue])


def _size(yard, name):
    form = yard.form(name)
    ring = yard.shape_of(name) == RING
    return str(ring_class_size(yard.roster(), form) if ring else class_size(yard.roster(), form))


def _steps(yard, name):
    people = yard.people_of(name)
    ring = yard.shape_of(name) == RING
    steps = ring_steps_of(yard.roster(), people) if ring else steps_of(yard.roster(), people)
    return walk_text(steps) if steps != () else "none"


def _rank(yard, name):
    _check_shape(yard, name, LINE)
    return str(rank_of(yard.roster(), yard.people_of(name)))


def _turn(yard, name):
    _check_shape(yard, name, RING)
    return str(least_turn(yard.roster(), yard.form(name)))


def _why(yard, name, goal):
    reason = why_not_by_shape(yard.roster(), yard.shape_of(name), yard.people_of(name), goal)
    return "reachable" if reason is None else " ".join([str(item) for item in reason])


def _alike(yard, name, other):
    return "yes" if yard.are_alike(name, other) else "no"


def _show(yard):
    return yard_text(yard)


def _check_shape(yard, name, shape):
    if yard.shape_of(name) != shape:
        raise WrongShape(name)


# What answers the commands that are no edits.
ANSWERS = {
    "undo": _undo, "redo": _redo, "form": _form, "size": _size, "steps": _steps, "rank": _rank,
    "turn": _turn, "why": _why, "alike": _alike, "show": _show,
}


class Desk:
    """Answers commands on the session that has a text."""

    def __init__(self, text):
        self._yard = parse_yard(text)

    def say(self, command):
        """Return the answer to a command."""
        items = _items_of(command)
        if items is None:
            return "bad command"
        try:
            return _answer(self._yard, items)
        except NoName:
            return "no name"
        except InvalidName:
            return "bad name"
        except NameTaken:
            return "name taken"
        except InvalidPeople:
            return "bad people"
        except InvalidPlace:
            return "bad place"
        except InvalidBadge:
            return "bad badge"
        except NotPossible:
            return "not possible"
        except NotReachable:
            return "not reachable"
        except WrongShape:
            return "wrong shape"
        except EmptyRing:
            return "empty ring"
        except Full:
            return "full"
        except NothingToUndo:
            return "nothing"


def _answer(yard, items):
    if is_edit(items):
        yard.apply(items)
        return "done"
    answer = ANSWERS[items[0]]
    words = items[1:]
    return answer(yard, *words)


def _items_of(command):
    """Return the command's first word and what the others stand for, or None for a bad command."""
    if not isinstance(command, str) or "\n" in command:
        return None
    word, *others = command.split(" ")
    kinds = COMMANDS.get(word)
    if kinds is None or len(kinds) != len(others) or "" in others:
        return None
    items = [word]
    for kind, other in zip(kinds, others):
        meant = _meant_by(kind, other)
        if meant is None:
            return None
        items.extend(meant)
    return tuple(items)


def _meant_by(kind, word):
    """Return what a word of this kind stands for, as a list of items; None if it is of another kind."""
    if kind == "MOVE":
        step = step_of(word)
        return None if step is None else list(step)
    if kind == "PLACE":
        place = number_of(word)
        return None if place is None else [place]
    return [people_of(word) if kind == "PEOPLE" else word]
