"""Sizes of classes of lines, by the series of excursions, and numbers of reduced words."""

from crewstep.errors import InvalidCounts
from crewstep.forms import are_counts, check_form, crews_beside
from crewstep.rosters import check_roster

# Stands for S where a badge x stands for S(x).
WHOLE = "*"


def class_size(roster, form):
    """Return the number of lines of a form."""
    check_form(roster, form)
    counts, core = form
    crews = crews_beside(roster, counts, core)
    return Excursions(roster, crews).coefficient(crews, WHOLE + core)


def reduced_words(roster, counts):
    """Return the number of reduced words with the given counts."""
    check_roster(roster)
    if not are_counts(roster, counts):
        raise InvalidCounts(counts)
    # Words with the same letters still to come, the same last letter and the same length of the
    # run at their end go on in the same ways.
    words = {(counts, "", 0): 1}
    for _ in range(sum(counts)):
        words = _one_letter_longer(roster, words)
    return sum(words.values())


class Excursions:
    """The series S and S(x) of point [17], up to given numbers of crews of each badge.

    A series is a list of coefficients. Their exponents are numbered so that the number of a sum
    of exponents is the sum of their numbers.
    """

    def __init__(self, roster, most):
        self._below = _numbers_below(most)
        self._strides = _strides(most)
        series = _solved(roster, most, self._strides, self._below)
        self._powers = {(factor, 1): series[factor] for factor in series}

    def coefficient(self, crews, factors):
        """Return the coefficient, for these numbers of crews, of the product of the series.

        The factors are a string of badges x, for S(x), and of WHOLE, for S.
        """
        number = sum([many * stride for many, stride in zip(crews, self._strides)])
        # The coefficients behind this one do not count.
        below = self._below[:number + 1]
        series = _unit(below)
        for factor in sorted(set(factors)):
            series = _product(below, series, self._power(factor, factors.count(factor)))
        return series[number]

    def _power(self, factor, exponent):
        """Return the series of the factor to the power of the exponent, which is at least 1."""
        if (factor, exponent) not in self._powers:
            less = self._power(factor, exponent - 1)
            self._powers[factor, exponent] = _product(self._below, less, self._powers[factor, 1])
        return self._powers[factor, exponent]


def _one_letter_longer(roster, words):
    longer = {}
    for (letters, last, run), many in words.items():
        for entry, (badge, size) in enumerate(roster):
            now = run + 1 if badge == last else 1
            if letters[entry] > 0 and now != size:
                rest = letters[:entry] + (letters[entry] - 1,) + letters[entry + 1:]
                longer[rest, badge, now] = longer.get((rest, badge, now), 0) + many
    return longer


def _strides(most):
    """Return for each badge the number of the exponents that are 1 for it and 0 for the others."""
    strides = [1]
    for many in most:
        strides.append(strides[-1] * (many + 1))
    return strides[:-1]


def _numbers_below(most):
    """Return for each exponents, in the order of their numbers, those of all that are not above.

    The first of these is always 0.
    """
    below = [[0]]
    for many in most:
        stride = len(below)
        below = [
            [part * stride + number for part in range(crews + 1) for number in row]
            for crews in range(many + 1) for row in below
        ]
    return below


def _solved(roster, most, strides, below):
    """Return S(x) for each badge x, and S, by their names as factors."""
    excursions = {badge: [0] * len(below) for badge, _ in roster}
    # E(x) has one crew more than the factors that it is made of, so each round makes the
    # coefficients right that belong to one crew more than those before.
    for _ in range(sum(most)):
        stays = _stays(excursions, below)
        excursions = {
            badge: _excursions_of(size, many, stride, stays[badge], below)
            for (badge, size), many, stride in zip(roster, most, strides)
        }
    return _stays(excursions, below)


def _stays(excursions, below):
    """Return 1 / (1 - the sum of the excursions but x) for each badge x; for WHOLE, of all of them."""
    stays = {}
    for factor in list(excursions) + [WHOLE]:
        others = [excursions[badge] for badge in excursions if badge != factor]
        total = [sum([series[number] for series in others]) for number in range(len(below))]
        stays[factor] = _inverse(below, total)
    return stays


def _excursions_of(size, many, stride, stay, below):
    """Return t(x) * S(x) ** (size - 1), for a badge x with that stride; 0 if the size is 0."""
    if size == 0:
        return [0] * len(below)
    power = _unit(below)
    for _ in range(size - 1):
        power = _product(below, power, stay)
    # Only exponents with a crew of the badge come from a product with t(x).
    has_crew = [number // stride % (many + 1) > 0 for number in range(len(below))]
    return [power[number - stride] if has_crew[number] else 0 for number in range(len(below))]


def _unit(below):
    return [1] + [0] * (len(below) - 1)


def _product(below, one, other):
    return [sum([one[part] * other[number - part] for part in row]) for number, row in enumerate(below)]


def _inverse(below, series):
    """Return 1 / (1 - series), for a series without a constant."""
    found = [1]
    for number, row in enumerate(below[1:], start=1):
        found.append(sum([series[part] * found[number - part] for part in row[1:]]))
    return found
