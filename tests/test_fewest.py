"""Points [9], [13], [16]: shortest walks of lines, crewstep/fewest.py."""

import unittest

from crewstep.errors import InvalidPeople, InvalidRoster, NotReachable, SeveralCrews
from crewstep.fewest import least_steps, least_way
from tests.checks import (
    A2B2, AB, LONG, CrewTest, core_by_hand, form_by_hand, small_lines, steps_by_hand,
)

A1B0 = (("a", 1), ("b", 0))
A5B0 = (("a", 5), ("b", 0))
A3B2C0 = (("a", 3), ("b", 2), ("c", 0))
FOUR = (("p", 3), ("q", 2), ("r", 1), ("s", 5))


def least_by_hand(roster, start):
    """The least number of steps to each line that can be reached, by a search of all walks."""
    found = {start: 0}
    front = [start]
    for line in front:
        for after in steps_by_hand(roster, line).values():
            if after not in found:
                found[after] = found[line] + 1
                front.append(after)
    return found


def with_crews_by_hand(roster, line):
    """The badges that have crews, in the order of the roster."""
    core = core_by_hand(roster, line)
    return [badge for badge, _ in roster if line.count(badge) > core.count(badge)]


class FewestTest(CrewTest):
    def check_walk(self, roster, start, goal, least):
        """The walk is made of possible steps, leads to the goal, and has that many steps."""
        walk = least_way(roster, start, goal)
        self.assertIs(type(walk), tuple)
        self.assertEqual(len(walk), least)
        line = start
        for step in walk:
            self.assertIs(type(step), tuple)
            line = steps_by_hand(roster, line)[step]
        self.check_same(line, goal)
        self.check_same(least_steps(roster, start, goal), least)

    def check_least(self, roster, start, goal, least):
        self.check_returns(least, least_steps, roster, start, goal)
        self.check_returns(least, least_steps, goal=goal, start=start, roster=roster)
        walk = least_way(roster, start, goal)
        self.check_returns(walk, least_way, goal=goal, start=start, roster=roster)
        self.check_walk(roster, start, goal, least)
        self.check_walk(roster, goal, start, least)

    def check_wrong(self, kind, fields, roster, start, goal):
        for function in (least_steps, least_way):
            self.check_raises(kind, fields, function, roster, start, goal)
            self.check_raises(kind, fields, function, goal=goal, start=start, roster=roster)


class LeastTest(FewestTest):
    def test_the_examples(self):
        self.check_least(AB, "aabab", "babaa", 2)
        self.check_least(AB, "aab", "baa", 1)
        self.check_returns(((0, 1),), least_way, AB, "aab", "baa")

    def test_no_badge_has_crews(self):
        for roster, line in (
            (AB, ""), (AB, "a"), (AB, "b" * 12), (A2B2, "ababababab"), (FOUR, "sssspsssspss"),
            ((("a", 0),), "a" * 12), ((("a", 5),), "aaaa"),
        ):
            self.check_least(roster, line, line, 0)
            self.check_returns((), least_way, roster, line, line)

    def test_a_line_with_crews_and_itself(self):
        for roster, line in ((AB, "aab"), (A1B0, "ababab"), ((("a", 5),), "a" * 12), (A3B2C0, "cbbcbb")):
            self.check_least(roster, line, line, 0)

    def test_rosters_of_one_badge(self):
        for size in range(6):
            for many in range(13):
                self.check_least((("a", size),), "a" * many, "a" * many, 0)

    def test_one_crew_past_many_people(self):
        self.check_least(AB, "aabbbbbbbbbb", "bbbbbbbbbbaa", 10)
        self.check_least(A5B0, "aaaaabbbbbbb", "bbbbbbbaaaaa", 7)
        self.check_least(A1B0, "abbbbbbbbbbb", "bbbbbbbbbbba", 11)

    def test_people_of_the_same_badge_are_no_obstacle(self):
        self.check_least(AB, "aaab", "abaa", 1)
        self.check_least(AB, "aaabab", "ababaa", 2)
        self.check_least(A3B2C0, "aaaacabcaa", "acabcaaaaa", 3)

    def test_many_crews_of_one_badge(self):
        self.check_least(A1B0, "aaaaaabbbbbb", "bbbbbbaaaaaa", 36)
        self.check_least(A1B0, "abababababab", "babababababa", 6)
        self.check_least(AB, "aabbaabbaabb", "bbbbbbaaaaaa", 12)
        self.check_least(AB, "baaaabbaa", "aabbaabaa", 2)

    def test_crews_that_walk_to_both_sides(self):
        self.check_least(A1B0, "bbaabb", "abbbba", 4)
        self.check_least(A1B0, "abba", "baab", 2)
        self.check_least(AB, "bbaaaabb", "aabbbbaa", 4)
        self.check_least(AB, "bbaaaaabb", "aabbabbaa", 4)

    def test_the_others_may_have_sizes_as_long_as_they_have_no_crews(self):
        self.check_least(A2B2, "aabab", "babaa", 2)
        self.check_least(FOUR, "pppssqpss", "ssqppppss", 3)
        self.check_least(FOUR, "rssssq", "ssssqr", 5)

    def test_all_small_lines(self):
        for roster, start in small_lines():
            crews = with_crews_by_hand(roster, start)
            with self.subTest(roster=roster, start=start):
                for goal, least in least_by_hand(roster, start).items():
                    if len(crews) < 2:
                        self.check_walk(roster, start, goal, least)
                    else:
                        for function in (least_steps, least_way):
                            with self.assertRaises(SeveralCrews) as caught:
                                function(roster, start, goal)
                            self.check_same(caught.exception.badge, crews[1])

    def test_all_lines_of_some_classes_of_twelve_people(self):
        for roster, start in (
            (AB, "aabaaabaabab"), (AB, "bbabaaaabbbb"), ((("a", 2), ("b", 5)), "aabaabaabab"),
            (A3B2C0, "aaabcaaabaaa"), (A5B0, "bbaaaaaaaabb"), (A1B0, "aaabbbbbbbbb"),
            ((("m", 2), ("n", 4), ("x", 1), ("z", 3)), "nnzxznnzxmzn"),
        ):
            with self.subTest(roster=roster, start=start):
                self.assertLessEqual(len(with_crews_by_hand(roster, start)), 1)
                for goal, least in least_by_hand(roster, start).items():
                    self.check_walk(roster, start, goal, least)


class NoWayTest(FewestTest):
    def test_the_example(self):
        self.check_wrong(SeveralCrews, {"badge": "b"}, A2B2, "aabb", "bbaa")

    def test_several_badges_have_crews_even_if_no_step_is_needed(self):
        self.check_wrong(SeveralCrews, {"badge": "b"}, A2B2, "aabb", "aabb")
        self.check_wrong(SeveralCrews, {"badge": "b"}, A2B2, "bbaa", "bbaa")
        self.check_wrong(SeveralCrews, {"badge": "b"}, A2B2, "abba", "abba")

    def test_the_second_badge_of_the_roster_that_has_crews(self):
        self.check_wrong(SeveralCrews, {"badge": "q"}, FOUR, "rqqppp", "rqqppp")
        self.check_wrong(SeveralCrews, {"badge": "r"}, FOUR, "srppp", "spppr")
        self.check_wrong(SeveralCrews, {"badge": "s"}, FOUR, "sssssqq", "qqsssss")
        self.check_wrong(SeveralCrews, {"badge": "s"}, FOUR, "qqqqsssssp", "sssssqqqqp")
        self.check_wrong(SeveralCrews, {"badge": "s"}, FOUR, "sssssrr", "rrsssss")
        self.check_wrong(SeveralCrews, {"badge": "q"}, FOUR, "sssssrqqppp", "pppqqrsssss")

    def test_not_reachable(self):
        self.check_wrong(NotReachable, {"reason": ("counts", "a")}, AB, "aab", "abb")
        self.check_wrong(NotReachable, {"reason": ("counts", "b")}, AB, "aab", "aa")
        self.check_wrong(NotReachable, {"reason": ("core", 0)}, A2B2, "aabb", "abab")
        self.check_wrong(NotReachable, {"reason": ("core", 1)}, A1B0 + (("c", 0),), "bbacb", "bcabb")

    def test_not_reachable_comes_before_several_crews(self):
        self.check_wrong(NotReachable, {"reason": ("core", 0)}, A2B2, "aabb", "baba")
        self.check_wrong(NotReachable, {"reason": ("counts", "a")}, A2B2, "aabb", "aabba")
        self.check_wrong(NotReachable, {"reason": ("counts", "b")}, A2B2, "aabb", "aab")
        self.check_wrong(NotReachable, {"reason": ("core", 0)}, A2B2, "aabbab", "aabbba")

    def test_long_lines(self):
        for roster, start in LONG:
            for other, goal in LONG:
                if roster == other and form_by_hand(roster, start) == form_by_hand(roster, goal):
                    crews = with_crews_by_hand(roster, start)
                    if len(crews) > 1:
                        self.check_wrong(SeveralCrews, {"badge": crews[1]}, roster, start, goal)
                    else:
                        least = least_by_hand(roster, start)[goal]
                        self.check_least(roster, start, goal, least)


class WrongArgumentsTest(CrewTest):
    def test_the_roster_comes_first(self):
        for function in (least_steps, least_way):
            for start, goal in (("aabb", "bbaa"), ("a", "b"), (None, None), ("c", ""), (["a"], "a" * 13)):
                self.check_roster_first(function, start, goal)
            self.check_raises(InvalidRoster, {"entry": 0}, function, goal=7, start=7, roster=(7,))

    def test_the_start_comes_next(self):
        for function in (least_steps, least_way):
            for goal in ("a", "", "ac", None, "a" * 13, ["a"]):
                self.check_line_next(function, goal)

    def test_the_goal_comes_last(self):
        for function in (least_steps, least_way):
            self.check_goal_last(function)
            self.check_raises(InvalidPeople, {"place": 1}, function, goal="ac", start="a", roster=AB)


if __name__ == "__main__":
    unittest.main()
