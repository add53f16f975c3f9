"""The points about sessions, done word for word, and what the tests of sessions share."""

import copy
import re

from crewstep.errors import (
    EmptyRing, Full, InvalidBadge, InvalidName, InvalidPeople, InvalidPlace, InvalidWalk, NameTaken, NoName,
    NothingToUndo, NotPossible, NotReachable, WrongShape,
)
from crewstep.ringsteps import ring_steps_of
from crewstep.ringways import ring_why_not
from crewstep.steps import steps_of
from crewstep.ways import why_not
from crewstep.yards import Yard
from tests.checks import CrewTest, ring_steps_by_hand, steps_by_hand

# Strings that are no names, and strings that are.
NO_NAMES = (
    "", "P", "pQ", "p1", "1", "p q", " p", "p ", "p\n", "\n", "-", "p-", "`", "{", "abcdefghi", "a" * 5000,
)
NAMES = ("a", "z", "p", "abcdefgh", "zzzzzzzz", "line", "ring")

# Names, each with its shape and its string, for rosters with the badges a and b.
SOME = {
    "e": ("line", ""), "f": ("line", "aabbaabbaabb"), "g": ("ring", "bbaabbaabbaa"), "p": ("line", "aab"),
    "q": ("ring", "abba"), "r": ("ring", "b"), "s": ("line", "aabbaabbaa"),
}
FULL = {**SOME, "h": ("ring", "ababab")}


class FirstError(Exception):
    """The error that a row of the table asks for."""

    def __init__(self, kind, *fields):
        self.kind = kind
        self.fields = fields


def due(condition, kind, *fields):
    """Tell of the error if it is due and none before it was."""
    if condition:
        raise FirstError(kind, *fields)


def is_name_by_hand(thing):
    return isinstance(thing, str) and re.fullmatch("[a-z]{1,8}", thing) is not None


def is_in_use(named, thing):
    return isinstance(thing, str) and thing in named


def is_number(thing, first, last):
    return type(thing) is int and first <= thing <= last


def people_due(roster, shape, people):
    """Point [6]: the error for what is no line or ring."""
    due(not isinstance(people, str) or len(people) > 12 or shape == "ring" and people == "", InvalidPeople, None)
    badges = [badge for badge, _ in roster]
    wrong = [place for place, person in enumerate(people) if person not in badges]
    due(wrong != [], InvalidPeople, wrong[0] if wrong else None)


def after_by_hand(roster, named, edit):
    """Point [21], row by row: the names after the edit, each with its shape and string.

    Raises FirstError for the first error that is due.
    """
    word, name, *others = edit
    after = dict(named)
    if word in ("line", "ring"):
        due(not is_name_by_hand(name), InvalidName, name)
        due(name in named, NameTaken, name)
        people_due(roster, word, others[0])
        due(len(named) == 8, Full, 8)
        after[name] = (word, others[0])
        return after
    due(not is_in_use(named, name), NoName, name)
    shape, people = named[name]
    row = ROWS[word]
    row(roster, after, name, shape, people, *others)
    return after


def drop(_, after, name, shape, people):
    del after[name]


def step(roster, after, name, shape, people, place, side):
    due(not is_number(place, 0, 11) or type(side) is not int or side not in (1, -1), InvalidWalk, 0)
    by_hand = ring_steps_by_hand if shape == "ring" else steps_by_hand
    due((place, side) not in by_hand(roster, people), NotPossible, 0)
    after[name] = (shape, by_hand(roster, people)[place, side])


def walk(roster, after, name, shape, people, goal):
    people_due(roster, shape, goal)
    reason = (ring_why_not if shape == "ring" else why_not)(roster, people, goal)
    due(reason is not None, NotReachable, reason)
    after[name] = (shape, goal)


def enter(roster, after, name, shape, people, place, badge):
    due(not is_number(place, 0, len(people)), InvalidPlace, place)
    due(not isinstance(badge, str) or badge not in [one for one, _ in roster], InvalidBadge, badge)
    due(len(people) == 12, Full, 12)
    row = list(people)
    row.insert(place, badge)
    after[name] = (shape, "".join(row))


def leave(_, after, name, shape, people, place):
    due(not is_number(place, 0, len(people) - 1), InvalidPlace, place)
    due(shape == "ring" and len(people) == 1, EmptyRing, name)
    row = list(people)
    row.pop(place)
    after[name] = (shape, "".join(row))


def close(_, after, name, shape, people):
    due(shape == "ring", WrongShape, name)
    due(people == "", EmptyRing, name)
    after[name] = ("ring", people)


def cut(_, after, name, shape, people, place):
    due(shape == "line", WrongShape, name)
    due(not is_number(place, 0, len(people) - 1), InvalidPlace, place)
    after[name] = ("line", "".join((people * 2)[place + by] for by in range(len(people))))


def join(_, after, name, shape, people, other):
    due(not is_in_use(after, other), NoName, other)
    due(shape == "ring", WrongShape, name)
    due(after[other][0] == "ring", WrongShape, other)
    due(name == other, NameTaken, name)
    due(len(people) + len(after[other][1]) > 12, Full, 12)
    after[name] = ("line", people + after.pop(other)[1])


def part(_, after, name, shape, people, place, other):
    due(shape == "ring", WrongShape, name)
    due(not is_number(place, 0, len(people)), InvalidPlace, place)
    due(not is_name_by_hand(other), InvalidName, other)
    due(other in after, NameTaken, other)
    due(len(after) == 8, Full, 8)
    after[name] = ("line", people[:place])
    after[other] = ("line", people[place:])


ROWS = {
    "drop": drop, "step": step, "walk": walk, "enter": enter, "leave": leave, "close": close, "cut": cut,
    "join": join, "part": part,
}


def text_by_hand(roster, named):
    """Points [22], [23]: the text of the session."""
    text = " ".join(badge + str(size) for badge, size in roster)
    for name in sorted(named):
        shape, people = named[name]
        text += "\n" + shape + " " + name + " " + (people or "-")
    return text


def yard_of(roster, named):
    """A session with these names, without regard to its history."""
    yard = Yard(roster)
    for name, (shape, people) in named.items():
        yard.apply((shape, name, people))
    return yard


def possible_steps(roster, shape, people):
    return (ring_steps_of if shape == "ring" else steps_of)(roster, people)


def moved(yard, move):
    """Undo or redo one action; tell whether there was one."""
    try:
        move(yard)
    except NothingToUndo:
        return False
    return True


class YardTest(CrewTest):
    def check_named(self, yard, named):
        """The session has exactly these names, shapes and strings."""
        self.check_same(yard.names(), tuple(sorted(named)))
        self.check_same(len(yard), len(named))
        for name, (shape, people) in named.items():
            self.check_same(yard.shape_of(name), shape)
            self.check_same(yard.people_of(name), people)
        self.check_same(str(yard), text_by_hand(yard.roster(), named))

    def seen(self, yard):
        """All that a session shows, also as far as it can be undone and redone."""
        shown = [str(yard), yard.history()]
        for move in (Yard.undo, Yard.redo):
            twin = yard.twin()
            while moved(twin, move):
                shown.append((str(twin), twin.history()))
        return shown

    def check_refused(self, kind, fields, yard, method, *arguments):
        """The call raises exactly this error, and the session stays as it was."""
        before = copy.deepcopy(self.seen(yard))
        self.check_raises(kind, fields, getattr(yard, method), *arguments)
        self.check_same(self.seen(yard), before)
