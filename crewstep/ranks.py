"""Ranks: the lines of a form in alphabetical order."""

from crewstep.errors import InvalidPeople, InvalidRank, InvalidWord
from crewstep.forms import check_form, crews_beside, form_of, leaves_crews
from crewstep.people import check_line, counts_of
from crewstep.readings import core_of
from crewstep.rosters import badges_of
from crewstep.series import WHOLE, Excursions
from crewstep.values import is_int


def count_beginning(roster, form, word):
    """Return the number of lines of the form that begin with the word."""
    check_form(roster, form)
    check_word(roster, word)
    return Beginnings(roster, form).number_with(word)


def first_badges(roster, form):
    """Return the badges with which lines of the form begin, in the order of the roster."""
    check_form(roster, form)
    beginnings = Beginnings(roster, form)
    return "".join([badge for badge in badges_of(roster) if beginnings.number_with(badge) > 0])


def rank_of(roster, line):
    """Return the number of lines of the same form that are alphabetically before the line."""
    return _rank_among(Beginnings(roster, form_of(roster, line)), roster, line)


def line_at(roster, form, rank):
    """Return the line of the form with the given rank."""
    check_form(roster, form)
    beginnings = Beginnings(roster, form)
    if not is_int(rank) or not 0 <= rank < beginnings.number_with(""):
        raise InvalidRank(rank)
    return _line_among(beginnings, roster, sum(form[0]), rank)


def next_line(roster, line):
    """Return the line of the same form with the next rank, or None for the last one."""
    beginnings = Beginnings(roster, form_of(roster, line))
    rank = _rank_among(beginnings, roster, line) + 1
    if rank == beginnings.number_with(""):
        return None
    return _line_among(beginnings, roster, len(line), rank)


class Beginnings:
    """Counts the lines of a form by the words with which they begin."""

    def __init__(self, roster, form):
        self._roster = roster
        self._counts, self._core = form
        self._excursions = Excursions(roster, crews_beside(roster, self._counts, ""))

    def number_with(self, word):
        """Return the number of lines of the form that begin with the word."""
        used = counts_of(self._roster, word)
        letters = [count - many for count, many in zip(self._counts, used)]
        stack = core_of(self._roster, word)
        ways = words_on(self._roster, stack, self._core)
        return sum([self._words_by(letters, stack[:kept], way) for kept, way in ways])

    def _words_by(self, letters, kept, way):
        """Return what point [20] counts for one length of the beginning that is kept."""
        if not leaves_crews(self._roster, letters, way):
            return 0
        crews = crews_beside(self._roster, letters, way)
        return self._excursions.coefficient(crews, (kept[-1:] or WHOLE) + way)


def check_word(roster, word):
    """Raise InvalidWord if the object is not a word of at most 12 letters."""
    try:
        check_line(roster, word)
    except InvalidPeople as wrong:
        raise InvalidWord(wrong.place) from None


def words_on(roster, stack, core):
    """Return the ways from one reduced word to another: pairs of a length l and the letters.

    The first l letters are kept. Each run behind them is made up to a crew, from the last one on,
    and then the core's other letters come. The greatest l comes first.
    """
    sizes = dict(roster)
    ways = [(len(stack), "")]
    closing = ""
    for place, run in reversed(_runs(stack)):
        badge = run[0]
        if sizes[badge] == 0:
            # This run stays for ever, and with it all that stands before it.
            break
        closing += badge * (sizes[badge] - len(run))
        ways.append((place, closing))
    return [(kept, way + core[kept:]) for kept, way in ways if stack[:kept] == core[:kept]]


def _runs(word):
    """Return the runs of a word, each with its place."""
    places = [place for place in range(len(word)) if place == 0 or word[place] != word[place - 1]]
    ends = places[1:] + [len(word)]
    return [(place, word[place:end]) for place, end in zip(places, ends)]


def _rank_among(beginnings, roster, line):
    rank = 0
    for place, person in enumerate(line):
        # The lines that differ from this one here for the first time, and are before it.
        before = [badge for badge in badges_of(roster) if badge < person]
        rank += sum([beginnings.number_with(line[:place] + badge) for badge in before])
    return rank


def _line_among(beginnings, roster, many, rank):
    """Return the line with that many people and this rank."""
    line = ""
    while len(line) < many:
        line, rank = _one_person_longer(beginnings, roster, line, rank)
    return line


def _one_person_longer(beginnings, roster, line, rank):
    """Return the beginning with the next person, and the rank among the lines that begin so."""
    for badge in badges_of(roster):
        number = beginnings.number_with(line + badge)
        if rank < number:
            break
        rank -= number
    return line + badge, rank
