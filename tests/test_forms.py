"""Point [14]: forms of lines, crewstep/forms.py."""

import itertools
import unittest

from crewstep.errors import Full, InvalidForm, InvalidPeople, InvalidRoster
from crewstep.forms import check_form, form_of, is_form, joined_form, standard_line
from tests.checks import (
    A2B2, AB, LONG, NO_PAIRS, WRONG_CORES, WRONG_COUNTS, CrewTest, form_by_hand, lines_of, small_lines,
    steps_by_hand,
)

A3B1C0 = (("a", 3), ("b", 1), ("c", 0))
FOUR = (("p", 3), ("q", 2), ("r", 1), ("s", 5))

RIGHT = (
    (A2B2, ((0, 0), "")),
    (A2B2, ((2, 1), "b")),
    (A2B2, ((2, 1), "aba")),
    (A2B2, ((3, 3), "ab")),
    (A2B2, ((6, 6), "")),
    (A2B2, ((6, 6), "abababababab")),
    (AB, ((12, 0), "")),
    (AB, ((0, 12), "b" * 12)),
    (AB, ((4, 2), "bb")),
    (AB, ((5, 2), "bab")),
    (A3B1C0, ((3, 1, 1), "c")),
    (A3B1C0, ((5, 0, 0), "aa")),
    (FOUR, ((0, 0, 0, 0), "")),
    (FOUR, ((5, 3, 0, 4), "sspqpss")),
    ((("a", 0),), ((12,), "a" * 12)),
    ((("a", 1),), ((12,), "")),
    ((("a", 5),), ((9,), "aaaa")),
)


class CheckFormTest(CrewTest):
    def check_right(self, roster, form):
        self.check_returns(None, check_form, roster, form)
        self.check_returns(None, check_form, form=form, roster=roster)
        self.check_returns(True, is_form, roster, form)
        self.check_returns(True, is_form, thing=form, roster=roster)

    def check_wrong(self, part, roster, form):
        for function in (check_form, standard_line):
            self.check_raises(InvalidForm, {"part": part}, function, roster, form)
            self.check_raises(InvalidForm, {"part": part}, function, form=form, roster=roster)
        self.check_returns(False, is_form, roster, form)
        right = ((0,) * len(roster), "")
        self.check_raises(InvalidForm, {"part": part}, joined_form, roster, form, right)
        self.check_raises(InvalidForm, {"part": part}, joined_form, roster, right, form)

    def test_the_examples(self):
        self.check_wrong("core", A2B2, ((2, 1), "a"))
        self.check_right(A2B2, ((2, 1), "b"))

    def test_forms(self):
        for roster, form in RIGHT:
            with self.subTest(roster=roster, form=form):
                self.check_right(roster, form)

    def test_objects_that_are_no_pairs(self):
        for form in NO_PAIRS:
            with self.subTest(form=form):
                self.check_wrong("form", A2B2, form)

    def test_wrong_counts(self):
        for counts in WRONG_COUNTS:
            with self.subTest(counts=counts):
                self.check_wrong("counts", A2B2, (counts, "b"))

    def test_wrong_cores(self):
        for core in WRONG_CORES:
            with self.subTest(core=core):
                self.check_wrong("core", A2B2, ((4, 3), core))

    def test_counts_come_before_the_core(self):
        for core in (None, 7, "c", "aa", "a" * 13, ["a"]):
            self.check_wrong("counts", A2B2, ((2, -1), core))
            self.check_wrong("counts", A2B2, ([2, 1], core))
            self.check_wrong("counts", A2B2, ((12, 1), core))
            self.check_wrong("form", A2B2, ((2, -1), core, None))

    def test_a_sum_of_twelve_and_of_thirteen(self):
        self.check_right((("a", 1), ("b", 1), ("c", 1), ("d", 1)), ((3, 3, 3, 3), ""))
        self.check_wrong("counts", (("a", 1), ("b", 1), ("c", 1), ("d", 1)), ((4, 3, 3, 3), ""))
        self.check_right((("a", 1),), ((12,), ""))
        self.check_wrong("counts", (("a", 1),), ((13,), ""))

    def test_a_core_that_is_not_reduced(self):
        self.check_wrong("core", A2B2, ((4, 2), "aa"))
        self.check_wrong("core", A2B2, ((2, 3), "abbab"))
        self.check_wrong("core", A3B1C0, ((3, 1, 0), "b"))
        self.check_wrong("core", (("a", 1),), ((3,), "a"))
        self.check_right((("a", 3),), ((5,), "aa"))
        self.check_wrong("core", (("a", 3),), ((6,), "aaa"))

    def test_people_who_make_no_whole_crews(self):
        self.check_wrong("core", (("a", 3),), ((5,), "a"))
        self.check_wrong("core", (("a", 3),), ((1,), "aa"))
        self.check_wrong("core", (("a", 5), ("b", 2)), ((5, 3), ""))
        self.check_right((("a", 5), ("b", 2)), ((5, 3), "b"))

    def test_a_badge_of_size_zero_is_in_the_core_completely(self):
        self.check_wrong("core", AB, ((2, 2), "b"))
        self.check_wrong("core", AB, ((2, 2), ""))
        self.check_wrong("core", AB, ((2, 2), "bbb"))
        self.check_right(AB, ((2, 2), "bb"))

    def test_the_letters_of_the_core_are_badges_of_the_roster(self):
        self.check_wrong("core", AB, ((0, 1), "bc"))
        self.check_wrong("core", AB, ((0, 1), "B"))
        self.check_wrong("core", AB, ((0, 0), "c"))

    def test_exactly_the_forms_of_small_lines_are_forms(self):
        for roster, longest in ((A2B2, 5), (AB, 5), (A3B1C0, 4), ((("a", 3),), 8), ((("k", 1),), 4)):
            forms = {form_by_hand(roster, line) for line in lines_of(roster, longest)}
            for counts in itertools.product(range(longest + 1), repeat=len(roster)):
                if sum(counts) <= longest:
                    for core in lines_of(roster, longest):
                        form = (counts, core)
                        self.assertIs(is_form(roster, form), form in forms, (roster, form))

    def test_the_roster_comes_first(self):
        for form in (None, ((2, 1), "b"), ((2, 1), "a"), ((), ""), []):
            self.check_roster_first(check_form, form)
            self.check_roster_first(is_form, form)
            self.check_roster_first(standard_line, form)
        self.check_raises(InvalidRoster, {"entry": 0}, check_form, form=7, roster=(7,))
        self.check_raises(InvalidRoster, {"entry": 0}, is_form, thing=7, roster=(7,))
        self.check_raises(InvalidRoster, {"entry": 0}, standard_line, form=7, roster=(7,))


class FormOfTest(CrewTest):
    def test_the_example(self):
        self.check_returns(((3, 1, 1), "c"), form_of, A3B1C0, "caaab")
        self.check_returns(((3, 1, 1), "c"), form_of, line="caaab", roster=A3B1C0)

    def test_the_empty_line(self):
        self.check_returns(((0, 0), ""), form_of, AB, "")
        self.check_returns(((0, 0, 0, 0), ""), form_of, FOUR, "")

    def test_all_small_lines(self):
        for roster, line in small_lines():
            with self.subTest(roster=roster, line=line):
                form = form_of(roster, line)
                self.check_same(form, form_by_hand(roster, line))
                self.check_same(check_form(roster, form), None)
                for after in steps_by_hand(roster, line).values():
                    self.check_same(form_of(roster, after), form)

    def test_lines_of_twelve_people(self):
        for roster, line in LONG:
            self.check_returns(form_by_hand(roster, line), form_of, roster, line)

    def test_the_errors(self):
        self.check_roster_first(form_of, "a")
        self.check_roster_first(form_of, None)
        self.check_line_next(form_of)
        self.check_raises(InvalidPeople, {"place": 1}, form_of, line="ac", roster=AB)


class StandardLineTest(CrewTest):
    def test_the_example(self):
        self.check_returns("caaaaaab", standard_line, A3B1C0, ((6, 1, 1), "c"))
        self.check_returns("caaaaaab", standard_line, form=((6, 1, 1), "c"), roster=A3B1C0)

    def test_nobody_and_nobody_else(self):
        self.check_returns("", standard_line, A2B2, ((0, 0), ""))
        self.check_returns("bab", standard_line, A2B2, ((1, 2), "bab"))
        self.check_returns("b" * 12, standard_line, AB, ((0, 12), "b" * 12))

    def test_the_order_of_the_roster(self):
        self.check_returns("pppqqrsssss", standard_line, FOUR, ((3, 2, 1, 5), ""))
        self.check_returns("sspqpppqqr", standard_line, FOUR, ((4, 3, 1, 2), "sspq"))
        self.check_returns("aaaabb", standard_line, A2B2, ((4, 2), ""))
        self.check_returns("abaabb", standard_line, A2B2, ((3, 3), "ab"))

    def test_a_line_of_twelve_people(self):
        self.check_returns("babaaaaabbbb", standard_line, A2B2, ((6, 6), "baba"))

    def test_the_form_of_the_standard_line_is_the_form(self):
        for roster, line in itertools.chain(small_lines(), LONG):
            with self.subTest(roster=roster, line=line):
                counts, core = form = form_by_hand(roster, line)
                expected = core
                for (badge, _), count in zip(roster, counts):
                    expected += badge * (count - core.count(badge))
                found = standard_line(roster, form)
                self.check_same(found, expected)
                self.check_same(form_of(roster, found), form)


class JoinedFormTest(CrewTest):
    def test_the_example(self):
        self.check_returns(((2, 2), ""), joined_form, A2B2, ((1, 0), "a"), ((1, 2), "a"))
        self.check_returns(
            ((2, 2), ""), joined_form, second=((1, 2), "a"), first=((1, 0), "a"), roster=A2B2)

    def test_the_order_of_the_two(self):
        self.check_returns(((1, 1), "ab"), joined_form, A2B2, ((1, 0), "a"), ((0, 1), "b"))
        self.check_returns(((1, 1), "ba"), joined_form, A2B2, ((0, 1), "b"), ((1, 0), "a"))

    def test_with_the_form_of_the_empty_line(self):
        for roster, form in RIGHT:
            empty = ((0,) * len(roster), "")
            self.check_returns(form, joined_form, roster, form, empty)
            self.check_returns(form, joined_form, roster, empty, form)

    def test_cores_that_take_out_one_another(self):
        self.check_returns(((4, 4), ""), joined_form, A2B2, ((2, 2), "abab"), ((2, 2), "baba"))
        self.check_returns(((3, 3), "ab"), joined_form, A2B2, ((2, 2), "abab"), ((1, 1), "ba"))
        self.check_returns(((3, 0, 1), "c"), joined_form, A3B1C0, ((2, 0, 1), "caa"), ((1, 0, 0), "a"))

    def test_all_pairs_of_small_lines(self):
        for roster in (A2B2, AB, A3B1C0, (("a", 5),), (("a", 1), ("b", 2))):
            lines = list(lines_of(roster, 7 if len(roster) == 1 else 3))
            for first, second in itertools.product(lines, repeat=2):
                if len(first + second) <= 12:
                    joined = joined_form(roster, form_by_hand(roster, first), form_by_hand(roster, second))
                    self.check_same(joined, form_by_hand(roster, first + second))

    def test_twelve_and_thirteen_people_together(self):
        right = ((6, 6), "")
        one = ((1, 0), "a")
        self.check_returns(((12, 0), ""), joined_form, A2B2, ((6, 0), ""), ((6, 0), ""))
        self.check_returns(right, joined_form, A2B2, ((5, 6), "a"), one)
        for first, second in ((right, one), (one, right), (right, right)):
            self.check_raises(Full, {"limit": 12}, joined_form, A2B2, first, second)
        self.check_raises(Full, {"limit": 12}, joined_form, second=right, first=one, roster=A2B2)

    def test_the_first_error_is_told(self):
        full, core, counts = ((6, 6), ""), ((2, 1), "a"), ((13, 1), "c")
        for second in (full, core, counts, None):
            self.check_raises(InvalidForm, {"part": "core"}, joined_form, A2B2, core, second)
            self.check_raises(InvalidForm, {"part": "form"}, joined_form, A2B2, [], second)
            self.check_roster_first(joined_form, counts, second)
        self.check_raises(InvalidForm, {"part": "counts"}, joined_form, A2B2, full, counts)
        self.check_raises(InvalidForm, {"part": "core"}, joined_form, A2B2, full, core)
        self.check_raises(InvalidForm, {"part": "form"}, joined_form, A2B2, full, 7)


if __name__ == "__main__":
    unittest.main()
