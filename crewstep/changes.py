"""What the edits do, row by row of the table of point [21].

A table has for each name in use a pair of a shape and a string. No table is modified, so that
others may keep it: each change makes a new one.
"""

from crewstep.edits import MAX_NAMES, is_name
from crewstep.errors import EmptyRing, Full, InvalidName, InvalidPlace, NameTaken, NoName, NotReachable, WrongShape
from crewstep.people import MAX_PEOPLE
from crewstep.rosters import size_of
from crewstep.shapes import LINE, RING, after_walk_by_shape, check_people, why_not_by_shape
from crewstep.values import is_int


def entry_of(table, name):
    """Return the shape and the string of a name; raise NoName if it is not in use."""
    # The name may be any object, a list or dict too, and these cannot be looked up.
    if not isinstance(name, str) or name not in table:
        raise NoName(name)
    return table[name]


def _add_line(roster, table, name, people):
    return _added(roster, table, name, LINE, people)


def _add_ring(roster, table, name, people):
    return _added(roster, table, name, RING, people)


def _drop(_, table, name):
    # Asked for its error alone.
    entry_of(table, name)
    return _without(table, name)


def _step(roster, table, name, place, side):
    shape, people = entry_of(table, name)
    return _with(table, name, shape, after_walk_by_shape(roster, shape, people, ((place, side),)))


def _walk(roster, table, name, goal):
    shape, people = entry_of(table, name)
    reason = why_not_by_shape(roster, shape, people, goal)
    if reason is not None:
        raise NotReachable(reason)
    return _with(table, name, shape, goal)


def _enter(roster, table, name, place, badge):
    shape, people = entry_of(table, name)
    _check_place(place, len(people) + 1)
    # Asked for its error alone.
    size_of(roster, badge)
    _check_fits(len(people) + 1)
    return _with(table, name, shape, people[:place] + badge + people[place:])


def _leave(_, table, name, place):
    shape, people = entry_of(table, name)
    _check_place(place, len(people))
    if shape == RING and len(people) == 1:
        raise EmptyRing(name)
    return _with(table, name, shape, people[:place] + people[place + 1:])


def _close(_, table, name):
    people = _people_of(table, name, LINE)
    if people == "":
        raise EmptyRing(name)
    return _with(table, name, RING, people)


def _cut(_, table, name, place):
    people = _people_of(table, name, RING)
    _check_place(place, len(people))
    return _with(table, name, LINE, people[place:] + people[:place])


def _join(_, table, name, other):
    # Both names are looked up before either shape is.
    entry_of(table, name)
    entry_of(table, other)
    people = _people_of(table, name, LINE) + _people_of(table, other, LINE)
    if name == other:
        raise NameTaken(name)
    _check_fits(len(people))
    return _with(_without(table, other), name, LINE, people)


def _part(_, table, name, place, other):
    people = _people_of(table, name, LINE)
    _check_place(place, len(people) + 1)
    _check_new(table, other)
    _check_room(table)
    return _with(_with(table, name, LINE, people[:place]), other, LINE, people[place:])


def _added(roster, table, name, shape, people):
    _check_new(table, name)
    check_people(roster, shape, people)
    _check_room(table)
    return _with(table, name, shape, people)


def _with(table, name, shape, people):
    return {**table, name: (shape, people)}


def _without(table, name):
    return {other: table[other] for other in table if other != name}


def _people_of(table, name, shape):
    """Return the string of a name; raise WrongShape if it does not stand for this shape."""
    own_shape, people = entry_of(table, name)
    if own_shape != shape:
        raise WrongShape(name)
    return people


def _check_place(place, many):
    if not is_int(place) or not 0 <= place < many:
        raise InvalidPlace(place)


def _check_fits(many):
    if many > MAX_PEOPLE:
        raise Full(MAX_PEOPLE)


def _check_new(table, name):
    if not is_name(name):
        raise InvalidName(name)
    if name in table:
        raise NameTaken(name)


def _check_room(table):
    if len(table) >= MAX_NAMES:
        raise Full(MAX_NAMES)


# For each first item of an edit: what makes a table from the roster, a table and the other items.
CHANGES = {
    "line": _add_line, "ring": _add_ring, "drop": _drop, "step": _step, "walk": _walk,
    "enter": _enter, "leave": _leave, "close": _close, "cut": _cut, "join": _join, "part": _part,
}


def changed(roster, table, edit):
    """Return the table after an edit."""
    change = CHANGES[edit[0]]
    items = edit[1:]
    return change(roster, table, *items)
