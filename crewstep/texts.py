"""The texts of rosters, walks and sessions."""

from crewstep.rosters import check_roster
from crewstep.steps import check_walk


def roster_text(roster):
    """Return the text of a roster."""
    check_roster(roster)
    return " ".join([f"{badge}{size}" for badge, size in roster])


def walk_text(walk):
    """Return the text of a walk."""
    check_walk(walk)
    if walk == ():
        return "-"
    return " ".join([f"{place}>" if side == 1 else f"{place}<" for place, side in walk])


def yard_text(yard):
    """Return the text of a session."""
    rows = [roster_text(yard.roster())]
    for name in yard.names():
        rows.append(f"{yard.shape_of(name)} {name} {people_text(yard.people_of(name))}")
    return "\n".join(rows)


def people_text(people):
    """Return the text of a line or ring."""
    return people if people != "" else "-"
