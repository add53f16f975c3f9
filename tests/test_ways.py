"""Point [16] for lines: crewstep/ways.py."""

import itertools
import unittest

from crewstep.errors import InvalidPeople, InvalidRoster, NotReachable
from crewstep.steps import MAX_WALK, after_walk, undo_walk
from crewstep.ways import way_between, why_not
from tests.checks import (
    A2B2, AB, LONG, SMALL, CrewTest, class_by_hand, core_by_hand, lines_of, steps_by_hand,
)

A3B2 = (("a", 3), ("b", 2))
A3B1C0 = (("a", 3), ("b", 1), ("c", 0))
FOUR = (("p", 3), ("q", 2), ("r", 1), ("s", 5))

# By the number of badges: the length up to which all pairs of lines are gone through.
LONGEST_PAIRS = (None, 12, 5, 4, 3)


def reason_by_hand(roster, start, goal):
    for badge, _ in roster:
        if start.count(badge) != goal.count(badge):
            return ("counts", badge)
    cores = core_by_hand(roster, start), core_by_hand(roster, goal)
    if cores[0] == cores[1]:
        return None
    return ("core", [one == other for one, other in itertools.zip_longest(*cores)].index(False))


def classes_by_hand(roster, longest):
    """All classes of lines with at most that many people, each as a set."""
    found = []
    left = set(lines_of(roster, longest))
    while left:
        found.append(class_by_hand(roster, min(left)))
        left -= found[-1]
    return found


class WaysTest(CrewTest):
    def check_way(self, roster, start, goal):
        """The walk leads from the start to the goal, by the definition, and keeps its bound."""
        walk = way_between(roster, start, goal)
        self.check_returns(walk, way_between, goal=goal, start=start, roster=roster)
        self.assertIs(type(walk), tuple)
        self.assertLessEqual(len(walk), min(2 * len(start) * len(start), MAX_WALK))
        line = start
        for step in walk:
            self.assertIs(type(step), tuple)
            line = steps_by_hand(roster, line)[step]
        self.check_same(line, goal)
        self.check_same(after_walk(roster, start, walk), goal)
        self.check_same(after_walk(roster, goal, undo_walk(roster, start, walk)), start)

    def check_why(self, reason, roster, start, goal):
        """The reason is told in both directions, also where the walk is asked for."""
        for one, other in ((start, goal), (goal, start)):
            self.check_returns(reason, why_not, roster, one, other)
            self.check_returns(reason, why_not, goal=other, start=one, roster=roster)
            if reason is None:
                self.check_way(roster, one, other)
            else:
                fields = {"reason": reason}
                self.check_raises(NotReachable, fields, way_between, roster, one, other)


class ReasonTest(WaysTest):
    def test_the_examples(self):
        self.check_why(("core", 0), A2B2, "aabb", "abab")
        self.check_why(("counts", "a"), A2B2, "aab", "abb")
        self.check_why(None, A2B2, "abba", "bbaa")

    def test_the_first_badge_whose_counts_differ(self):
        self.check_why(("counts", "b"), AB, "ab", "a")
        self.check_why(("counts", "a"), AB, "b", "ab")
        self.check_why(("counts", "b"), A3B1C0, "abc", "acc")
        self.check_why(("counts", "c"), A3B1C0, "abbcc", "babc")
        self.check_why(("counts", "r"), FOUR, "pqrs", "qps")
        self.check_why(("counts", "p"), FOUR, "p", "qrs")
        self.check_why(("counts", "s"), FOUR, "", "sssss")

    def test_counts_come_before_cores(self):
        self.check_why(("counts", "b"), A2B2, "ab", "bab")
        self.check_why(("counts", "a"), A2B2, "aa", "")
        self.check_why(("counts", "a"), A2B2, "aab", "b")

    def test_the_first_index_at_which_the_cores_differ(self):
        self.check_why(("core", 0), A2B2, "ab", "ba")
        self.check_why(("core", 1), A3B2, "aab", "aba")
        self.check_why(("core", 2), A3B2, "baab", "baba")
        self.check_why(("core", 3), AB, "abbab", "abbba")
        self.check_why(("core", 1), A3B1C0, "bcbacb", "ccbabb")
        self.check_why(("core", 10), AB, "abababababab", "ababababab" + "ba")

    def test_one_core_is_a_beginning_of_the_other(self):
        self.check_why(("core", 0), A3B2, "aaabb", "aabab")
        self.check_why(("core", 1), A2B2, "aaabb", "ababa")
        self.check_why(("core", 2), A2B2, "aaabbb", "ababab")

    def test_the_empty_line(self):
        self.check_why(None, AB, "", "")
        self.check_why(("counts", "a"), AB, "", "a")
        self.check_returns((), way_between, AB, "", "")

    def test_lines_of_twelve_people(self):
        for (roster, start), (other, goal) in itertools.product(LONG, repeat=2):
            if roster == other:
                with self.subTest(roster=roster, start=start, goal=goal):
                    self.check_why(reason_by_hand(roster, start, goal), roster, start, goal)


class WayTest(WaysTest):
    def test_a_line_and_itself(self):
        for roster, line in LONG + ((AB, ""), (AB, "b"), (A2B2, "abab"), (FOUR, "pppq")):
            self.check_way(roster, line, line)

    def test_one_crew(self):
        self.check_way(AB, "aabbbbbbbbbb", "bbbbbbbbbbaa")
        self.check_way(AB, "bbbbbaabbbbb", "aabbbbbbbbbb")
        self.check_way((("a", 5), ("b", 0)), "aaaaabbbbbbb", "bbbbbbbaaaaa")
        self.check_way((("a", 1), ("b", 0)), "abbbbbbbbbbb", "bbbbbbbbbbba")

    def test_crews_of_one_person_in_reverse_order(self):
        one = (("a", 1), ("b", 1), ("c", 1), ("d", 1))
        self.check_way(one, "aaabbbcccddd", "dddcccbbbaaa")
        self.check_way(one, "dddcccbbbaaa", "aaabbbcccddd")
        self.check_way(one, "abcdabcdabcd", "dcbadcbadcba")
        self.check_way((("a", 1), ("b", 1)), "abababababab", "babababababa")

    def test_crews_inside_of_crews(self):
        self.check_way(A2B2, "abbaabba", "bbbbaaaa")
        self.check_way((("a", 2), ("b", 2), ("c", 2)), "abcaaccaacba", "aaaaaabbcccc")
        self.check_way((("p", 3), ("q", 2), ("s", 5)), "ssqpppqsssqq", "qqqqpppsssss")

    def test_all_pairs_of_small_lines(self):
        for roster, longest in SMALL:
            lines = list(lines_of(roster, min(longest, LONGEST_PAIRS[len(roster)])))
            with self.subTest(roster=roster):
                for start, goal in itertools.product(lines, repeat=2):
                    reason = why_not(roster, start, goal)
                    self.check_same(reason, reason_by_hand(roster, start, goal))
                    if reason is not None:
                        with self.assertRaises(NotReachable) as caught:
                            way_between(roster, start, goal)
                        self.check_same(caught.exception.reason, reason)
                    else:
                        walk = way_between(roster, start, goal)
                        self.assertLessEqual(len(walk), 2 * len(start) * len(start))
                        self.check_same(after_walk(roster, start, walk), goal)

    def test_exactly_the_lines_of_the_class_are_reached(self):
        for roster, longest in SMALL:
            with self.subTest(roster=roster):
                classes = [sorted(lines) for lines in classes_by_hand(roster, longest)]
                for lines in classes:
                    for start, goal in zip(lines, lines[1:] + lines[:1]):
                        self.check_way(roster, start, goal)
                for one, other in itertools.combinations([lines[0] for lines in classes], 2):
                    self.assertIsNotNone(why_not(roster, one, other))

    def test_far_lines_of_twelve_people(self):
        for roster, start in LONG:
            line = start
            for many in range(120):
                after = sorted(steps_by_hand(roster, line).values())
                if after:
                    line = after[many * many % len(after)]
                if many % 20 == 0:
                    self.check_way(roster, start, line)
                    self.check_way(roster, line, start)


class WrongArgumentsTest(CrewTest):
    def test_the_roster_comes_first(self):
        for function in (why_not, way_between):
            for start, goal in (("a", "a"), (None, None), ("c", ""), (["a"], "a" * 13)):
                self.check_roster_first(function, start, goal)
            self.check_raises(InvalidRoster, {"entry": 0}, function, goal=7, start=7, roster=(7,))

    def test_the_start_comes_next(self):
        for function in (why_not, way_between):
            for goal in ("a", "", "ac", None, "a" * 13, ["a"]):
                self.check_line_next(function, goal)

    def test_the_goal_comes_last(self):
        for function in (why_not, way_between):
            self.check_goal_last(function)
            self.check_raises(InvalidPeople, {"place": 1}, function, goal="ac", start="a", roster=AB)


if __name__ == "__main__":
    unittest.main()
