"""Points [11], [12], [16]: crewstep/newcomers.py."""

import itertools
import unittest

from crewstep.errors import InvalidForm, InvalidPeople, InvalidRoster, InvalidWord
from crewstep.newcomers import completion, newcomers
from tests.checks import (
    A2B2, AB, LONG, SMALL, WRONG_LINES, CrewTest, core_by_hand, form_by_hand, lines_of,
)

A2B3 = (("a", 2), ("b", 3))
A5B0 = (("a", 5), ("b", 0))
FOUR = (("p", 3), ("q", 2), ("r", 1), ("s", 5))

# By the number of badges: the length up to which all reduced words are gone through, and how many
# letters more a word may have on the way from one of them to another.
LONGEST = (None, 5, 4, 3, 2)
ON_THE_WAY = (None, 4, 4, 3, 3)

# By the number of badges: the length up to which all lines and goals are gone through.
LONGEST_GOAL = (None, 12, 5, 4, 3)


def words_by_hand(roster, start, longest):
    """For each core that comes from the start by more letters: all shortest words that do it.

    The search leaves out cores of more letters than told. Such a core would have to lose letters
    again, by letters of their own.
    """
    found = {start: [""]}
    front = [start]
    while front:
        later = {}
        for core in front:
            for badge, _ in roster:
                after = core_by_hand(roster, core + badge)
                if after not in found and len(after) <= longest:
                    later.setdefault(after, []).extend(word + badge for word in found[core])
        found.update(later)
        front = list(later)
    return found


def reduced_by_hand(roster, longest):
    return [word for word in lines_of(roster, longest) if core_by_hand(roster, word) == word]


class NewcomersTest(CrewTest):
    def check_newcomers(self, roster, line, core, word):
        """The word is found, behind the line, and in front of the line read from its end."""
        self.check_returns(word, newcomers, roster, line, core)
        self.check_returns(word, newcomers, front=False, core=core, line=line, roster=roster)
        back = None if word is None else word[::-1]
        self.check_returns(back, newcomers, roster, line[::-1], core[::-1], front=True)
        if word is not None:
            self.assertEqual(core_by_hand(roster, line + word), core)
            self.assertEqual(core_by_hand(roster, back + line[::-1]), core[::-1])

    def check_wrong(self, kind, fields, roster, line, core):
        for front in (False, True):
            self.check_raises(kind, fields, newcomers, roster, line, core, front=front)
            self.check_raises(kind, fields, newcomers, front=front, core=core, line=line, roster=roster)
        self.check_raises(kind, fields, newcomers, roster, line, core)

    def test_the_examples(self):
        self.check_newcomers(A5B0, "aaa", "aa", "aaaa")
        self.check_returns("bba", newcomers, A2B3, "ab", "", front=True)
        self.check_newcomers(AB, "ab", "a", None)

    def test_front_is_passed_by_name_only(self):
        with self.assertRaises(TypeError):
            newcomers(AB, "ab", "a", True)

    def test_nobody_needs_to_come(self):
        for roster, line in LONG + ((AB, ""), (AB, "b"), (FOUR, "srqp")):
            self.check_newcomers(roster, line, core_by_hand(roster, line), "")

    def test_the_empty_line_needs_the_core(self):
        for roster, core in ((AB, ""), (AB, "b" * 12), (A2B2, "ab" * 6), (FOUR, "sspqpqsspqpp")):
            self.check_newcomers(roster, "", core, core)

    def test_the_empty_core_needs_all_runs_made_up(self):
        self.check_newcomers(A2B3, "ab", "", "bba")
        self.check_newcomers(FOUR, "sspq", "", "qppsss")
        self.check_newcomers((("a", 5),), "a" * 12, "", "aaa")
        self.check_newcomers(AB, "ba", "", None)

    def test_more_than_twelve_newcomers(self):
        roster = (("a", 5), ("b", 5))
        self.check_newcomers(roster, "ab" * 6, "", "bbbbaaaa" * 6)
        self.check_newcomers(roster, "ab" * 6, "ba" * 6, "bbbbaaaa" * 6 + "ba" * 6)
        self.check_newcomers(roster, "ab" * 6, "b" + "ab" * 5 + "a", "bbbbaaaa" * 6 + "b" + "ab" * 5 + "a")

    def test_one_run_on_both_sides(self):
        five = (("a", 5), ("b", 5))
        self.check_newcomers(five, "aa", "aaa", "a")
        self.check_newcomers(five, "aaa", "aa", "aaaa")
        self.check_newcomers(five, "aab", "aaab", "bbbbab")
        self.check_newcomers(five, "aaab", "aab", "bbbbaaaab")
        self.check_newcomers(five, "baa", "ba", "aaaa")
        self.check_newcomers(five, "baab", "bab", "bbbbaaaab")

    def test_letters_that_the_core_keeps(self):
        self.check_newcomers(A2B2, "ab", "aba", "a")
        self.check_newcomers(A2B2, "abab", "ab", "ba")
        self.check_newcomers(FOUR, "spq", "spqs", "s")
        self.check_newcomers(FOUR, "spq", "sq", "qppq")

    def test_a_badge_of_size_zero_stays(self):
        self.check_newcomers(AB, "bab", "bab", "")
        self.check_newcomers(AB, "ba", "b", "a")
        self.check_newcomers(AB, "ba", "ab", None)
        self.check_newcomers(AB, "bab", "ba", None)
        self.check_newcomers(AB, "b", "ab", None)
        self.check_newcomers(AB, "b", "bb", "b")
        self.check_newcomers(AB, "bb", "b", None)
        self.check_newcomers((("a", 0),), "a" * 12, "a" * 11, None)

    def test_a_badge_of_size_one_leaves_no_letter(self):
        self.check_newcomers((("a", 1), ("b", 2)), "abab", "", "")
        self.check_newcomers((("a", 1), ("b", 2)), "aba", "", "b")
        self.check_newcomers((("a", 1),), "a" * 12, "", "")
        self.check_wrong(InvalidForm, {"part": "core"}, (("a", 1), ("b", 2)), "a", "a")

    def test_a_line_counts_by_its_core(self):
        for roster, line in LONG:
            core = core_by_hand(roster, line)
            for goal in reduced_by_hand(roster, 2):
                self.check_newcomers(roster, line, goal, newcomers(roster, core, goal))

    def test_all_small_words(self):
        for roster, _ in SMALL:
            longest = LONGEST[len(roster)]
            cores = reduced_by_hand(roster, longest)
            for line in cores:
                words = words_by_hand(roster, line, longest + ON_THE_WAY[len(roster)])
                for core in cores:
                    with self.subTest(roster=roster, line=line, core=core):
                        expected = words.get(core, [None])
                        self.assertEqual(len(expected), 1)
                        self.check_newcomers(roster, line, core, expected[0])

    def test_no_shorter_word_of_whatever_letters(self):
        for roster, lines in ((A2B3, ("ab", "bba", "aab")), (FOUR, ("ss", "sp", "qrp"))):
            for line, core in itertools.product(lines, reduced_by_hand(roster, 1)):
                found = newcomers(roster, line, core)
                for word in lines_of(roster, min(len(found), 6)):
                    if word != found:
                        self.assertNotEqual(core_by_hand(roster, line + word), core)

    def test_the_core_is_checked_last(self):
        for core, place in WRONG_LINES:
            with self.subTest(core=core):
                self.check_wrong(InvalidWord, {"place": place}, AB, "ab", core)
                self.check_wrong(InvalidWord, {"place": place}, AB, "", core)

    def test_words_that_are_not_reduced(self):
        for core in ("aa", "aaa", "baa", "aab", "a" * 12, "abaaba"):
            self.check_wrong(InvalidForm, {"part": "core"}, AB, "ab", core)
            self.check_wrong(InvalidForm, {"part": "core"}, AB, core, core)
        self.check_wrong(InvalidWord, {"place": 2}, AB, "ab", "aac")
        self.check_wrong(InvalidWord, {"place": None}, AB, "ab", "a" * 13)

    def test_the_roster_and_the_line_come_before_the_core(self):
        for core in ("a", "aa", "c", None, "a" * 13, ["a"]):
            for front in (False, True):
                self.check_roster_first(lambda *those: newcomers(*those, front=front), "c", core)
                self.check_line_next(lambda *those: newcomers(*those, front=front), core)
        self.check_raises(InvalidRoster, {"entry": 0}, newcomers, core=7, line=7, roster=(7,), front=True)
        self.check_raises(InvalidPeople, {"place": None}, newcomers, core=7, line=7, roster=AB)


class CompletionTest(CrewTest):
    def check_completion(self, roster, line, goal):
        """There is a completion, and with it the line has the form of the goal."""
        word = completion(roster, line, goal)
        self.check_returns(word, completion, goal=goal, line=line, roster=roster)
        self.assertIs(type(word), str)
        self.check_same(form_by_hand(roster, line + word), form_by_hand(roster, goal))

    def check_none(self, roster, line, goal):
        self.check_returns(None, completion, roster, line, goal)
        self.check_returns(None, completion, goal=goal, line=line, roster=roster)

    def test_the_examples(self):
        self.check_none(AB, "ab", "b")
        self.check_completion(AB, "ab", "abaab")

    def test_a_line_and_itself(self):
        for roster, line in LONG + ((AB, ""), (AB, "b"), (FOUR, "srqp")):
            self.check_returns("", completion, roster, line, line)

    def test_the_empty_line_and_the_empty_goal(self):
        for roster, line in LONG:
            self.check_completion(roster, "", line)
            self.check_none(roster, line, "")
        self.check_returns("", completion, AB, "", "")

    def test_beginnings_of_lines_of_twelve_people(self):
        for roster, line in LONG:
            for many in range(13):
                self.check_completion(roster, line[:many], line)

    def test_too_few_letters_are_left(self):
        self.check_none(AB, "aabb", "bb")
        self.check_none(AB, "b", "ab")
        self.check_none((("a", 5), ("b", 5)), "ababab", "bababa" + "bababa")
        self.check_none((("a", 5), ("b", 5)), "ab" * 3, "b" * 3 + "a" * 9)

    def test_a_badge_of_size_zero_stays(self):
        self.check_none(AB, "ab", "ba")
        self.check_none(AB, "ab", "aab")
        self.check_none(AB, "bab", "aabb")
        self.check_none(AB, "a", "ba")
        self.check_completion(AB, "b", "bab")
        self.check_completion(AB, "a", "aab")

    def test_crews_come_with_the_letters_of_the_core(self):
        self.check_completion(A2B2, "ab", "aabb")
        self.check_completion(A2B2, "b", "aaaabbb")
        self.check_completion(FOUR, "", "rpppsssssqqr")
        self.check_completion(AB, "ba", "baaaaabbbbbb")

    def test_all_small_lines_and_goals(self):
        for roster, longest in SMALL:
            lines = list(lines_of(roster, min(longest, LONGEST_GOAL[len(roster)])))
            forms = {line: form_by_hand(roster, line) for line in lines}
            reached = {}
            for whole in lines:
                for many in range(len(whole) + 1):
                    reached.setdefault(whole[:many], {})[forms[whole]] = True
            with self.subTest(roster=roster):
                for line, goal in itertools.product(lines, repeat=2):
                    word = completion(roster, line, goal)
                    if forms[goal] in reached[line]:
                        self.check_same(form_by_hand(roster, line + word), forms[goal])
                    else:
                        self.assertIsNone(word, (line, goal))

    def test_the_errors(self):
        for goal in ("a", "", "ac", None, "a" * 13, ["a"]):
            self.check_roster_first(completion, "c", goal)
            self.check_line_next(completion, goal)
        self.check_goal_last(completion)
        self.check_raises(InvalidRoster, {"entry": 0}, completion, goal=7, line=7, roster=(7,))
        self.check_raises(InvalidPeople, {"place": 1}, completion, goal="ac", line="a", roster=AB)


if __name__ == "__main__":
    unittest.main()
