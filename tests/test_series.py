"""Points [14], [16], [17], [18]: crewstep/series.py."""

import functools
import itertools
import math
import time
import unittest

from crewstep.errors import InvalidCounts, InvalidForm, InvalidRoster
from crewstep.series import class_size, reduced_words
from tests.checks import (
    A2B2, AB, LONG, SMALL, WRONG_COUNTS, CrewTest, class_by_hand, core_by_hand, form_by_hand, lines_by_form,
)

FOUR = (("p", 3), ("q", 2), ("r", 1), ("s", 5))
EACH_1 = (("a", 1), ("b", 1), ("c", 1), ("d", 1))
EACH_2 = (("a", 2), ("b", 2), ("c", 2), ("d", 2))

# Rosters and counts of twelve people, whose lines are counted one letter after the other.
TWELVE = (
    (A2B2, (6, 6)),
    (A2B2, (9, 3)),
    (AB, (8, 4)),
    ((("a", 3), ("b", 2)), (6, 6)),
    ((("a", 1), ("b", 5)), (6, 6)),
    ((("a", 2), ("b", 2), ("c", 2)), (4, 4, 4)),
    ((("a", 1), ("b", 2), ("c", 0)), (4, 5, 3)),
    ((("a", 3), ("b", 3), ("c", 2)), (5, 3, 4)),
    ((("a", 4), ("b", 1), ("c", 2)), (5, 2, 5)),
    (FOUR, (6, 4, 1, 1)),
    (FOUR, (3, 2, 2, 5)),
    ((("a", 2), ("b", 3), ("c", 2), ("d", 0)), (6, 3, 2, 1)),
)


def arrangements(counts):
    """The number of all lines with these counts."""
    found = math.factorial(sum(counts))
    for count in counts:
        found //= math.factorial(count)
    return found


@functools.lru_cache(maxsize=None)
def cores_by_hand(roster, counts):
    """The number of lines with these counts for each core, made longer by one letter at a time."""
    found = {((0,) * len(roster), ""): 1}
    for _ in range(sum(counts)):
        longer = {}
        for (used, core), many in found.items():
            for entry, (badge, _) in enumerate(roster):
                if used[entry] < counts[entry]:
                    now = used[:entry] + (used[entry] + 1,) + used[entry + 1:]
                    key = (now, core_by_hand(roster, core + badge))
                    longer[key] = longer.get(key, 0) + many
        found = longer
    return {core: many for (_, core), many in found.items()}


class ClassSizeTest(CrewTest):
    def check_size(self, size, roster, form):
        self.check_returns(size, class_size, roster, form)
        self.check_returns(size, class_size, form=form, roster=roster)

    def test_the_examples(self):
        self.check_size(4, A2B2, ((2, 2), ""))
        self.check_size(10, AB, ((4, 3), "bbb"))

    def test_the_form_without_people(self):
        for roster in ((("a", 0),), (("z", 1),), AB, A2B2, FOUR, EACH_1):
            self.check_size(1, roster, ((0,) * len(roster), ""))

    def test_forms_without_crews(self):
        self.check_size(1, AB, ((0, 12), "b" * 12))
        self.check_size(1, A2B2, ((2, 3), "babab"))
        self.check_size(1, A2B2, ((6, 6), "abababababab"))
        self.check_size(1, FOUR, ((5, 3, 0, 4), "sspqpqsspqpp"))

    def test_rosters_of_one_badge(self):
        for size, many in itertools.product(range(6), range(13)):
            core = "a" * (many % size if size else many)
            self.check_size(1, (("a", size),), ((many,), core))

    def test_crews_of_one_person(self):
        self.check_size(arrangements((6, 6)), (("a", 1), ("b", 1)), ((6, 6), ""))
        self.check_size(arrangements((4, 4, 4)), EACH_1[:3], ((4, 4, 4), ""))
        self.check_size(369600, EACH_1, ((3, 3, 3, 3), ""))
        self.check_size(arrangements((9, 1, 1, 1)), EACH_1, ((9, 1, 1, 1), ""))

    def test_one_badge_with_crews_among_people_who_have_none(self):
        # Each of the crews stands before, between or behind the others.
        for size in range(1, 6):
            for others in range(13):
                for crews in range((12 - others) // size + 1):
                    form = ((crews * size, others), "b" * others)
                    expected = math.comb(crews + others, crews)
                    self.check_size(expected, (("a", size), ("b", 0)), form)

    def test_letters_of_the_core_that_have_crews(self):
        self.check_size(1, (("a", 3),), ((11,), "aa"))
        self.check_size(2, AB, ((3, 1), "ab"))
        self.check_size(3, AB, ((4, 1), "b"))

    def test_all_small_lines(self):
        for roster, longest in SMALL:
            for form, lines in lines_by_form(roster, longest).items():
                self.check_same(class_size(roster, form), len(lines))

    def test_the_form_of_a_line_and_all_lines_to_which_it_can_be_walked(self):
        for roster, line in LONG:
            if class_size(roster, form_by_hand(roster, line)) <= 2000:
                self.check_size(len(class_by_hand(roster, line)), roster, form_by_hand(roster, line))

    def test_all_forms_with_some_counts_of_twelve_people(self):
        for roster, counts in TWELVE:
            with self.subTest(roster=roster, counts=counts):
                found = cores_by_hand(roster, counts)
                self.assertEqual(sum(found.values()), arrangements(counts))
                for core, many in found.items():
                    self.check_same(class_size(roster, (counts, core)), many)

    def test_twelve_people_without_delay(self):
        for roster, form in (
            (EACH_1, ((3, 3, 3, 3), "")),
            (EACH_1, ((6, 2, 2, 2), "")),
            (EACH_2, ((4, 4, 2, 2), "")),
            (EACH_2, ((3, 3, 3, 3), "abcd")),
            (EACH_1[:3] + (("d", 2),), ((3, 3, 3, 3), "d")),
            ((("a", 5), ("b", 1), ("c", 1), ("d", 1)), ((5, 3, 2, 2), "")),
        ):
            before = time.process_time()
            class_size(roster, form)
            self.assertLess(time.process_time() - before, 1)

    def test_the_errors(self):
        self.check_roster_first(class_size, ((2, 2), ""))
        self.check_roster_first(class_size, None)
        self.check_form_next(class_size)
        self.check_raises(InvalidRoster, {"entry": 0}, class_size, form=7, roster=(7,))
        self.check_raises(InvalidForm, {"part": "form"}, class_size, form=7, roster=AB)


class ReducedWordsTest(CrewTest):
    def check_words(self, many, roster, counts):
        self.check_returns(many, reduced_words, roster, counts)
        self.check_returns(many, reduced_words, counts=counts, roster=roster)

    def test_the_example(self):
        self.check_words(3, AB, (2, 2))

    def test_the_empty_word(self):
        for roster in ((("a", 0),), (("z", 1),), AB, A2B2, FOUR, EACH_1):
            self.check_words(1, roster, (0,) * len(roster))

    def test_rosters_of_one_badge(self):
        for size, many in itertools.product(range(6), range(13)):
            self.check_words(1 if size == 0 or many < size else 0, (("a", size),), (many,))

    def test_a_badge_of_size_one_is_in_no_reduced_word(self):
        self.check_words(0, (("a", 1), ("b", 0)), (1, 5))
        self.check_words(1, (("a", 1), ("b", 0)), (0, 5))
        self.check_words(0, EACH_1, (3, 3, 3, 3))

    def test_badges_of_size_zero_stand_in_any_order(self):
        none = (("a", 0), ("b", 0), ("c", 0), ("d", 0))
        self.check_words(369600, none, (3, 3, 3, 3))
        self.check_words(1, none, (0, 12, 0, 0))

    def test_badges_of_size_two_have_runs_of_one(self):
        self.check_words(2, A2B2, (6, 6))
        self.check_words(1, A2B2, (6, 5))
        self.check_words(0, A2B2, (7, 5))
        self.check_words(math.comb(8, 5), AB, (5, 7))

    def test_all_small_words(self):
        for roster, longest in SMALL:
            by_counts = {}
            for counts, core in lines_by_form(roster, longest):
                by_counts.setdefault(counts, []).append(core)
            for counts, cores in by_counts.items():
                whole = [core for core in cores if len(core) == sum(counts)]
                self.check_words(len(set(whole)), roster, counts)

    def test_words_of_twelve_letters(self):
        for roster, counts in TWELVE:
            found = cores_by_hand(roster, counts)
            self.check_words(len([core for core in found if len(core) == 12]), roster, counts)

    def test_wrong_counts(self):
        for counts in WRONG_COUNTS:
            with self.subTest(counts=counts):
                self.check_raises(InvalidCounts, {"counts": counts}, reduced_words, A2B2, counts)
                self.check_raises(InvalidCounts, {"counts": counts}, reduced_words, counts=counts, roster=A2B2)

    def test_a_sum_of_twelve_and_of_thirteen(self):
        self.check_words(arrangements((12, 0)), AB[1:] + (("c", 0),), (12, 0))
        self.check_raises(InvalidCounts, {"counts": (13,)}, reduced_words, (("a", 0),), (13,))
        self.check_raises(InvalidCounts, {"counts": (4, 3, 3, 3)}, reduced_words, FOUR, (4, 3, 3, 3))

    def test_the_roster_comes_first(self):
        for counts in ((2, 2), (2,), None, [], (13,)):
            self.check_roster_first(reduced_words, counts)
        self.check_raises(InvalidRoster, {"entry": 0}, reduced_words, counts=7, roster=(7,))


if __name__ == "__main__":
    unittest.main()
