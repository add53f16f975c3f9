"""Points [9], [16] for rings: crewstep/ringways.py."""

import functools
import itertools
import time
import unittest

from crewstep.errors import InvalidPeople, InvalidRoster, NotReachable
from crewstep.people import turned
from crewstep.ringforms import least_turn
from crewstep.ringsteps import ring_after_walk, ring_undo_walk
from crewstep.ringways import ring_way_between, ring_why_not
from crewstep.steps import MAX_WALK
from tests.checks import (
    A2B2, AB, LONG, SMALL, CrewTest, divisor_by_hand, lines_of, ring_class_by_hand, ring_form_by_hand,
    ring_steps_by_hand, small_rings,
)

A1B1 = (("a", 1), ("b", 1))
A3B2 = (("a", 3), ("b", 2))
A3B1C0 = (("a", 3), ("b", 1), ("c", 0))
A4B0 = (("a", 4), ("b", 0))
A2B2C0 = (("a", 2), ("b", 2), ("c", 0))
A5B5 = (("a", 5), ("b", 5))
FOUR = (("p", 3), ("q", 2), ("r", 1), ("s", 5))
EACH_1 = (("a", 1), ("b", 1), ("c", 1), ("d", 1))
NONE = (("a", 0), ("b", 0))

# By the number of badges: the length up to which all pairs of rings are gone through.
LONGEST_PAIRS = (None, 8, 5, 3, 2)


form_by_hand = functools.lru_cache(maxsize=None)(ring_form_by_hand)


def reason_by_hand(roster, start, goal):
    """What ring_why_not says, by forms that are found word for word."""
    for badge, _ in roster:
        if start.count(badge) != goal.count(badge):
            return ("counts", badge)
    _, core, residue = form_by_hand(roster, start)
    _, other_core, other_residue = form_by_hand(roster, goal)
    if core != other_core:
        letters = itertools.zip_longest(core, other_core)
        return ("core", [one == other for one, other in letters].index(False))
    if residue != other_residue:
        return ("residue", divisor_by_hand(roster, start, core), residue, other_residue)
    return None


def ring_classes(roster, many):
    """All classes of rings with that many places, each as a list."""
    left = {ring for ring in lines_of(roster, many) if len(ring) == many}
    while left:
        found = ring_class_by_hand(roster, min(left))
        left -= found
        yield sorted(found)


class RingWaysTest(CrewTest):
    def check_way(self, roster, start, goal):
        """The walk leads from the start to the goal, by the definition, and keeps its bound."""
        walk = ring_way_between(roster, start, goal)
        self.check_returns(walk, ring_way_between, goal=goal, start=start, roster=roster)
        self.assertIs(type(walk), tuple)
        self.assertLessEqual(len(walk), min(6 * len(start) * len(start), MAX_WALK))
        ring = start
        for step in walk:
            self.check_same(step, (int(step[0]), int(step[1])))
            self.assertIs(type(step), tuple)
            ring = ring_steps_by_hand(roster, ring)[step]
        self.check_same(ring, goal)
        self.check_same(ring_after_walk(roster, start, walk), goal)
        self.check_same(ring_after_walk(roster, goal, ring_undo_walk(roster, start, walk)), start)

    def check_one_why(self, reason, roster, start, goal):
        self.check_returns(reason, ring_why_not, roster, start, goal)
        self.check_returns(reason, ring_why_not, goal=goal, start=start, roster=roster)
        if reason is None:
            self.check_way(roster, start, goal)
        else:
            fields = {"reason": reason}
            self.check_raises(NotReachable, fields, ring_way_between, roster, start, goal)

    def check_why(self, reason, roster, start, goal):
        """The reason is told in both directions, also where the walk is asked for."""
        self.check_one_why(reason, roster, start, goal)
        if reason is not None and reason[0] == "residue":
            reason = (reason[0], reason[1], reason[3], reason[2])
        self.check_one_why(reason, roster, goal, start)


class ReasonTest(RingWaysTest):
    def test_the_examples(self):
        self.check_why(("residue", 2, 0, 1), A2B2, "aaab", "aaba")
        self.check_why(None, A2B2, "aaab", "abaa")

    def test_the_first_badge_whose_counts_differ(self):
        self.check_why(("counts", "a"), AB, "aab", "abb")
        self.check_why(("counts", "b"), A3B1C0, "abc", "acc")
        self.check_why(("counts", "r"), FOUR, "pqrs", "qpss")
        self.check_why(("counts", "p"), FOUR, "p", "q")
        self.check_why(("counts", "s"), FOUR, "rssssss", "rsssss")

    def test_rings_of_different_lengths(self):
        self.check_why(("counts", "b"), AB, "ab", "a")
        self.check_why(("counts", "a"), AB, "b", "ab")
        self.check_why(("counts", "a"), A2B2, "aa", "aaaa")
        self.check_why(("counts", "b"), A2B2, "aabb", "aa")
        self.check_why(("counts", "a"), (("a", 1),), "a", "a" * 12)
        self.check_why(("counts", "c"), A3B1C0, "abcc", "abc")
        for roster, start in LONG:
            for many in range(1, 12):
                goal = start[:many]
                self.check_why(reason_by_hand(roster, start, goal), roster, start, goal)

    def test_counts_come_before_cores_and_residues(self):
        self.check_why(("counts", "b"), A2B2, "ab", "bab")
        self.check_why(("counts", "a"), A2B2, "aab", "ba")
        self.check_why(("counts", "b"), NONE, "aab", "baab")

    def test_the_first_index_at_which_the_cores_differ(self):
        self.check_why(("core", 0), A3B2, "aabab", "aaabb")
        self.check_why(("core", 1), NONE, "aabb", "abab")
        self.check_why(("core", 2), NONE, "aababb", "aaabbb")
        self.check_why(("core", 3), NONE, "aababb", "aabbab")

    def test_the_cores_are_compared_as_least_rotations(self):
        self.check_why(("core", 1), NONE, "bbaa", "baba")
        self.check_why(("core", 2), A2B2C0, "cabacb", "bacabc")
        self.check_why(("core", 1), (("a", 3), ("b", 2), ("c", 0)), "acbaabca", "aaacbbca")
        self.check_why(None, A2B2C0, "cabbac", "abbacc")

    def test_cores_come_before_residues(self):
        self.check_why(("core", 0), A2B2, "abba", "baba")
        self.check_why(("core", 2), (("a", 4), ("b", 4)), "aabbabbb", "aababbbb")

    def test_one_core_is_a_beginning_of_the_other(self):
        self.check_why(("core", 0), A2B2, "aabb", "abab")
        self.check_why(("core", 2), A2B2, "abaabb", "ababab")
        self.check_why(("core", 4), A2B2, "ababaabb", "abababab")

    def test_residues(self):
        self.check_why(("residue", 5, 1, 0), A5B5, "baaaaaaaaa", "aaaabaaaaa")
        for one, other in itertools.combinations(range(4), 2):
            start, goal = turned(A4B0, "aabbaaaa", one), turned(A4B0, "aabbaaaa", other)
            self.check_why(("residue", 4, one, other), A4B0, start, goal)
        for one, other in itertools.combinations(range(12), 2):
            start, goal = turned(NONE, "aaaaaabbbbbb", one), turned(NONE, "aaaaaabbbbbb", other)
            self.check_why(("residue", 12, one, other), NONE, start, goal)

    def test_the_divisor_is_told_and_not_the_turn(self):
        self.check_why(("residue", 4, 0, 1), (("a", 4), ("b", 2)), "ababaaaa", "babaaaaa")
        self.check_why(("residue", 12, 0, 1), A2B2, "ab" * 6, "ba" * 6)
        self.check_why(None, (("a", 4), ("b", 2)), "ababaaaa", "aaababaa")

    def test_cores_of_one_badge_have_the_residue_zero(self):
        for by in range(12):
            self.check_why(None, AB, "aabbbbbbbbbb", turned(AB, "aabbbbbbbbbb", by))
            self.check_why(None, A4B0, "aaaaaaaabbbb", turned(A4B0, "aaaabbaaaabb", by))

    def test_rings_of_twelve_people(self):
        for (roster, start), (other, goal) in itertools.product(LONG, repeat=2):
            if roster == other:
                for by in (0, 1, 6):
                    around = turned(roster, goal, by)
                    with self.subTest(roster=roster, start=start, goal=around):
                        self.check_why(reason_by_hand(roster, start, around), roster, start, around)

    def test_all_pairs_of_small_rings(self):
        for roster, longest in SMALL:
            rings = [ring for ring in lines_of(roster, min(longest, LONGEST_PAIRS[len(roster)])) if ring]
            for start in rings:
                reached = ring_class_by_hand(roster, start)
                with self.subTest(roster=roster, start=start):
                    for goal in rings:
                        reason = ring_why_not(roster, start, goal)
                        self.check_same(reason, reason_by_hand(roster, start, goal))
                        self.assertEqual(reason is None, goal in reached)
                        if reason is not None:
                            with self.assertRaises(NotReachable) as caught:
                                ring_way_between(roster, start, goal)
                            self.check_same(caught.exception.reason, reason)

    def test_rings_of_different_classes_are_not_reached(self):
        for roster, longest in SMALL:
            classes = list(ring_classes(roster, min(longest, 5)))
            for one, other in itertools.permutations([rings[0] for rings in classes], 2):
                self.assertIsNotNone(ring_why_not(roster, one, other))


class WayTest(RingWaysTest):
    def test_a_ring_and_itself(self):
        for roster, ring in LONG + ((AB, "a"), (AB, "b"), (A2B2, "abab"), (FOUR, "pppq"), (A1B1, "ab")):
            self.check_way(roster, ring, ring)

    def test_rings_as_small_as_a_crew(self):
        for size in range(1, 6):
            for many in range(1, 13):
                self.check_way((("a", size),), "a" * many, "a" * many)
                self.check_way((("a", size), ("b", size)), "a" * many, "a" * many)
        self.check_way(A1B1, "ab", "ba")
        self.check_way((("a", 1), ("b", 0)), "ab", "ba")
        self.check_way((("a", 0), ("b", 1)), "ab", "ba")
        for by in range(6):
            self.check_way((("a", 5), ("b", 0)), "aaaaab", turned(AB, "aaaaab", by))
            self.check_way((("a", 5), ("b", 1)), "aaaaab", turned(AB, "aaaaab", by))

    def test_each_number_of_places(self):
        for many in range(1, 13):
            for roster, ring in (
                (AB, "a" * (many // 2) + "b" * (many - many // 2)),
                (A1B1, ("ab" * 6)[:many]),
                (A2B2, ("aabbab" * 2)[:many]),
                (FOUR, "pppqqrsssssr"[:many]),
                ((("a", 1), ("b", 0), ("c", 0)), ("a" + "bc" * 6)[:many]),
            ):
                found = ring_class_by_hand(roster, ring) if many <= 6 else {ring}
                for goal in sorted(found):
                    self.check_way(roster, ring, goal)

    def test_crews_that_wrap_around(self):
        for roster, start, goal in (
            (A2B2, "abba", "baab"),
            (A2B2, "abba", "aabb"),
            (A2B2, "abbbba", "bbaabb"),
            (A2B2C0, "cabbac", "abbacc"),
            (A2B2C0, "baccab", "ccabba"),
            (A5B5, "aabbbbbaaa", "bbaaaaabbb"),
            (A5B5, "abbbbbbbbb", "bbbbbabbbb"),
            ((("a", 5), ("b", 0)), "aaabbbbbbbaa", "bbbbaaaaabbb"),
        ):
            self.check_way(roster, start, goal)
            self.check_way(roster, goal, start)

    def test_turns_of_a_ring_by_multiples_of_the_turn(self):
        for roster, ring in itertools.chain(small_rings(), LONG):
            turn = least_turn(roster, form_by_hand(roster, ring))
            with self.subTest(roster=roster, ring=ring):
                for by in range(0, len(ring), turn):
                    goal = turned(roster, ring, by)
                    walk = ring_way_between(roster, ring, goal)
                    self.assertLessEqual(len(walk), 6 * len(ring) * len(ring))
                    self.check_same(ring_after_walk(roster, ring, walk), goal)

    def test_turns_of_twelve_people_by_laps(self):
        for roster, ring in (
            ((("a", 1), ("b", 0), ("c", 0)), "abbbbbcbcbcb"),
            ((("a", 1), ("b", 0), ("c", 0)), "abcbcbcbcbc"),
            ((("a", 5), ("b", 0), ("c", 0)), "aaaaabbcbcbc"),
            ((("a", 5), ("b", 4), ("c", 0)), "aaaaabcbbbbc"),
            ((("a", 3), ("b", 2), ("c", 2)), "aaabcbcbcbcc"),
            ((("a", 4), ("b", 3), ("c", 0), ("d", 0)), "aaaabbbcdccd"),
        ):
            turn = least_turn(roster, form_by_hand(roster, ring))
            for by in range(0, len(ring), turn):
                self.check_way(roster, ring, turned(roster, ring, by))

    def test_all_rings_of_small_classes(self):
        for roster, longest in SMALL:
            for many in range(1, longest + 1):
                for rings in ring_classes(roster, many):
                    for start, goal in zip(rings, rings[1:] + rings[:1]):
                        walk = ring_way_between(roster, start, goal)
                        self.assertLessEqual(len(walk), 6 * many * many)
                        self.check_same(ring_after_walk(roster, start, walk), goal)

    def test_far_rings_of_twelve_people(self):
        for roster, start in LONG:
            turn = least_turn(roster, form_by_hand(roster, start))
            ring = turned(roster, start, 5 * turn)
            for many in range(60):
                after = sorted(ring_steps_by_hand(roster, ring).values())
                if after:
                    ring = after[many * many % len(after)]
                if many % 20 == 19:
                    self.check_way(roster, start, ring)
                    self.check_way(roster, ring, start)

    def test_twelve_people_without_delay(self):
        for roster, start, goal in (
            (EACH_1, "abcdabcdabcd", "dcbadcbadcba"),
            ((("a", 1), ("b", 0), ("c", 0)), "abcbcbcbcbcc", "bcbcbcabcbcc"),
        ):
            before = time.process_time()
            self.check_way(roster, start, goal)
            self.assertLess(time.process_time() - before, 1)


class WrongArgumentsTest(CrewTest):
    def test_the_roster_comes_first(self):
        for function in (ring_why_not, ring_way_between):
            for start, goal in (("a", "a"), (None, None), ("c", ""), (["a"], "a" * 13), ("", "")):
                self.check_roster_first(function, start, goal)
            self.check_raises(InvalidRoster, {"entry": 0}, function, goal=7, start=7, roster=(7,))

    def test_the_start_comes_next(self):
        for function in (ring_why_not, ring_way_between):
            for goal in ("a", "", "ac", None, "a" * 13, ["a"]):
                self.check_ring_next(function, goal)

    def test_the_goal_comes_last(self):
        for function in (ring_why_not, ring_way_between):
            self.check_ring_goal_last(function)
            self.check_raises(InvalidPeople, {"place": 1}, function, goal="ac", start="a", roster=AB)


if __name__ == "__main__":
    unittest.main()
