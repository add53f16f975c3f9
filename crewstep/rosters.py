"""Rosters: which badges there are, and how many people form a crew of each."""

from crewstep.errors import InvalidBadge, InvalidRoster
from crewstep.values import is_int

MAX_BADGES = 4
MAX_SIZE = 5


def check_roster(roster):
    """Raise InvalidRoster if the object is not a roster."""
    if not isinstance(roster, tuple) or not 1 <= len(roster) <= MAX_BADGES:
        raise InvalidRoster(None)
    before = ""
    for entry, item in enumerate(roster):
        if not _is_entry(item) or item[0] <= before:
            raise InvalidRoster(entry)
        before = item[0]


def is_roster(thing):
    """Tell whether the object is a roster."""
    try:
        check_roster(thing)
    except InvalidRoster:
        return False
    return True


def badges_of(roster):
    """Return the string of the badges in the order of the roster."""
    check_roster(roster)
    return "".join([item[0] for item in roster])


def size_of(roster, badge):
    """Return the size of a badge; raise InvalidBadge if it is not in the roster."""
    check_roster(roster)
    # The badge may be any object, a list or dict too: it is compared, not looked up.
    for own_badge, size in roster:
        if own_badge == badge:
            return size
    raise InvalidBadge(badge)


def _is_entry(item):
    return isinstance(item, tuple) and len(item) == 2 and _is_badge(item[0]) and _is_size(item[1])


def _is_badge(thing):
    return isinstance(thing, str) and len(thing) == 1 and "a" <= thing <= "z"


def _is_size(thing):
    return is_int(thing) and 0 <= thing <= MAX_SIZE
