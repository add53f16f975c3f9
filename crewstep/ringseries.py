"""Sizes of classes of rings, by the series of excursions."""

from crewstep.forms import crews_beside
from crewstep.ringforms import check_ring_form, least_turn, period_of
from crewstep.rosters import badges_of
from crewstep.series import WHOLE, Excursions


def ring_class_size(roster, form):
    """Return the number of rings of a form."""
    check_ring_form(roster, form)
    counts, core, _ = form
    crews = crews_beside(roster, counts, core)
    excursions = Excursions(roster, crews)
    if core == "":
        return excursions.coefficient(crews, WHOLE)
    if core == core[0] * len(core):
        return _size_for_one_badge(roster, excursions, crews, sum(counts), core)
    lines = excursions.coefficient(crews, core)
    return sum(counts) * period_of(core) * lines // (len(core) * least_turn(roster, form))


def _size_for_one_badge(roster, excursions, crews, many, core):
    """Return the size for a core of one badge only: the last sum of point [19]."""
    entry = badges_of(roster).index(core[0])
    _, size = roster[entry]
    total = 0
    for joined in range(crews[entry] + 1):
        # Crews of the core's badge that stand around nobody cannot be told from the core.
        people = len(core) + size * joined
        others = crews[:entry] + (crews[entry] - joined,) + crews[entry + 1:]
        # Each ring is found once for each of these people, so the division leaves no rest.
        total += many * excursions.coefficient(others, core[0] * people) // people
    return total
