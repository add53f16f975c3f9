"""Points [7], [8], [9] for lines: crewstep/steps.py."""

import unittest

from crewstep import steps
from crewstep.errors import InvalidBadge, InvalidPeople, InvalidRoster, InvalidWalk, NotPossible
from crewstep.steps import after_walk, crews_at, steps_of, undo_walk
from tests.checks import (
    A2B2, AB, LONG, THINGS, CrewTest, WalkChecks, class_by_hand, crews_by_hand, small_lines,
    steps_by_hand,
)

A3B1C0 = (("a", 3), ("b", 1), ("c", 0))
FOUR = (("p", 3), ("q", 2), ("r", 1), ("s", 5))
EACH_SIZE = tuple((("a", size),) for size in range(6))


class CrewsAtTest(CrewTest):
    def test_the_example(self):
        self.check_returns((0, 1, 3), crews_at, (("a", 2), ("b", 1)), "aaab")
        self.check_returns((0, 1, 3), crews_at, line="aaab", roster=(("a", 2), ("b", 1)))

    def test_the_empty_line(self):
        for roster in EACH_SIZE + (A2B2, FOUR):
            self.check_returns((), crews_at, roster, "")

    def test_each_size_and_each_number_of_people(self):
        for size, roster in enumerate(EACH_SIZE):
            for many in range(13):
                expected = tuple(range(many - size + 1)) if size else ()
                self.check_returns(expected, crews_at, roster, "a" * many)

    def test_overlapping_crews(self):
        self.check_returns((0, 1, 2), crews_at, AB, "aaaa")
        self.check_returns((1, 2, 6), crews_at, A3B1C0, "caaaacb")
        self.check_returns((0, 1, 2, 4, 5, 8), crews_at, FOUR, "rqqqpppprsss")

    def test_a_crew_is_all_of_one_badge_at_consecutive_places(self):
        self.check_returns((), crews_at, A2B2, "abab")
        self.check_returns((1,), crews_at, A2B2, "abba")
        self.check_returns((), crews_at, FOUR, "ppqpsssspqs")

    def test_a_badge_of_size_zero_never_forms_a_crew(self):
        self.check_returns((), crews_at, AB, "bbbb")
        self.check_returns((0,), crews_at, AB, "aabb")

    def test_all_small_lines(self):
        for roster, line in small_lines():
            with self.subTest(roster=roster, line=line):
                self.check_same(crews_at(roster, line), tuple(crews_by_hand(roster, line)))

    def test_lines_of_twelve_people(self):
        for roster, line in LONG:
            self.check_returns(tuple(crews_by_hand(roster, line)), crews_at, roster, line)

    def test_the_errors(self):
        self.check_roster_first(crews_at, "a")
        self.check_roster_first(crews_at, None)
        self.check_line_next(crews_at)
        self.check_raises(InvalidPeople, {"place": 1}, crews_at, line="ac", roster=AB)


class StepsOfTest(CrewTest):
    def test_the_examples(self):
        self.check_returns(((0, 1), (2, -1)), steps_of, A2B2, "aabb")
        self.check_returns(((2, -1),), steps_of, A2B2, "aabb", badge="b")

    def test_the_arguments_by_name(self):
        self.check_returns(((2, -1),), steps_of, badge="b", line="aabb", roster=A2B2)
        self.check_returns(((0, 1), (2, -1)), steps_of, A2B2, "aabb", badge=None)

    def test_the_badge_is_passed_by_name_only(self):
        with self.assertRaises(TypeError):
            steps_of(A2B2, "aabb", "b")

    def test_no_steps(self):
        for line in ("", "a", "aa", "aaaaaaaaaaaa", "abab", "bbbbbb", "babababababa"):
            self.check_returns((), steps_of, AB, line)
        self.check_returns((), steps_of, AB, "aabb", badge="b")
        self.check_returns((), steps_of, FOUR, "qppp", badge="s")

    def test_the_left_step_of_a_place_comes_first(self):
        self.check_returns(((1, -1), (1, 1)), steps_of, AB, "baab")
        self.check_returns(((1, -1), (1, 1), (2, -1), (2, 1)), steps_of, A3B1C0, "cbaaac")

    def test_a_neighbour_with_the_same_badge(self):
        self.check_returns(((1, -1), (2, 1)), steps_of, (("a", 2), ("b", 2), ("c", 0)), "caaac")
        self.check_returns(((2, 1),), steps_of, AB, "aaaab")
        self.check_returns(((1, -1),), steps_of, AB, "baaaa")

    def test_crews_of_one_person(self):
        self.check_returns(((0, 1), (1, -1)), steps_of, (("a", 1), ("b", 1)), "ab")
        self.check_returns(((1, 1), (3, -1)), steps_of, (("a", 1), ("b", 0)), "aaba")

    def test_all_small_lines(self):
        for roster, line in small_lines():
            with self.subTest(roster=roster, line=line):
                expected = sorted(steps_by_hand(roster, line))
                self.check_same(steps_of(roster, line), tuple(expected))
                for badge, _ in roster:
                    own = tuple(step for step in expected if line[step[0]] == badge)
                    self.check_same(steps_of(roster, line, badge=badge), own)

    def test_lines_of_twelve_people(self):
        for roster, line in LONG:
            self.check_returns(tuple(sorted(steps_by_hand(roster, line))), steps_of, roster, line)

    def test_badges_outside_of_the_roster(self):
        for badge in THINGS + ("c", "B", "aabb", "ba", ("a",), {"b": 2}, ["b"]):
            if badge is None or badge == "a":
                continue
            with self.subTest(badge=badge):
                self.check_raises(InvalidBadge, {"badge": badge}, steps_of, A2B2, "aabb", badge=badge)
                self.check_raises(InvalidBadge, {"badge": badge}, steps_of, A2B2, "", badge=badge)

    def test_the_roster_and_the_line_come_before_the_badge(self):
        self.check_roster_first(steps_of, "c")
        self.check_line_next(steps_of)
        for badge in ("c", 7, ["a"], {}, ""):
            self.check_raises(InvalidRoster, {"entry": 0}, steps_of, (None,), "c", badge=badge)
            self.check_raises(InvalidPeople, {"place": 0}, steps_of, AB, "c", badge=badge)
            self.check_raises(InvalidPeople, {"place": None}, steps_of, AB, None, badge=badge)


class WalkTest(WalkChecks, CrewTest):
    walks = (after_walk, undo_walk)
    people = "line"

    def check_walk(self, roster, line, walk, after):
        self.check_returns(after, after_walk, roster, line, walk)
        self.check_returns(after, after_walk, walk=walk, line=line, roster=roster)
        back = undo_walk(roster, line, walk)
        self.check_returns(back, undo_walk, walk=walk, line=line, roster=roster)
        self.check_returns(line, after_walk, roster, after, back)
        self.check_returns(walk, undo_walk, roster, after, back)

    def test_the_limit(self):
        self.check_same(steps.MAX_WALK, 1000)

    def test_the_examples(self):
        walk = ((0, 1), (1, 1))
        self.check_walk(AB, "aabb", walk, "bbaa")
        self.check_wrong(NotPossible, 1, AB, "aabb", ((0, 1), (0, 1)))
        self.check_returns(((2, -1), (1, -1)), undo_walk, AB, "aabb", walk)

    def test_no_step(self):
        for roster, line in LONG + ((AB, ""), (AB, "b"), (FOUR, "s")):
            self.check_walk(roster, line, (), line)
            self.check_returns((), undo_walk, roster, line, ())

    def test_longer_walks(self):
        self.check_walk(A3B1C0, "aaacb", ((4, -1), (3, -1), (2, -1), (1, -1), (1, 1)), "bcaaa")
        self.check_walk(FOUR, "pqqpp", ((1, -1),), "qqppp")
        self.check_walk(FOUR, "pqqpp", ((1, -1), (2, -1)), "qpppq")

    def test_the_walk_of_the_opposites(self):
        self.check_returns(((1, -1),), undo_walk, AB, "aab", ((0, 1),))
        self.check_returns(((0, 1),), undo_walk, AB, "baa", ((1, -1),))
        self.check_returns(((9, 1), (10, 1)), undo_walk, (("a", 1), ("b", 0)), "b" * 11 + "a",
                           ((11, -1), (10, -1)))

    def test_each_step_of_small_lines_and_its_opposite(self):
        for roster, line in small_lines():
            with self.subTest(roster=roster, line=line):
                for (place, side), after in steps_by_hand(roster, line).items():
                    walk = ((place, side),)
                    back = ((place + side, -side),)
                    self.check_same(after_walk(roster, line, walk), after)
                    self.check_same(undo_walk(roster, line, walk), back)
                    self.check_same(after_walk(roster, after, back), line)
                    self.check_same(after_walk(roster, line, walk + back), line)

    def test_each_step_that_is_not_possible_on_small_lines(self):
        for roster, line in small_lines():
            if len(line) > 4:
                continue
            possible = steps_by_hand(roster, line)
            for step in ((place, side) for place in range(12) for side in (1, -1)):
                if step not in possible:
                    self.check_wrong(NotPossible, 0, roster, line, (step,))

    def test_steps_of_lines_of_twelve_people(self):
        for roster, line in LONG:
            possible = steps_by_hand(roster, line)
            for step in ((place, side) for place in range(12) for side in (1, -1)):
                if step in possible:
                    self.check_walk(roster, line, (step,), possible[step])
                else:
                    self.check_wrong(NotPossible, 0, roster, line, (step,))

    def test_walks_stay_in_the_class(self):
        for line in sorted(class_by_hand(A2B2, "abbaab")):
            for step, after in steps_by_hand(A2B2, line).items():
                for other, last in steps_by_hand(A2B2, after).items():
                    self.check_walk(A2B2, line, (step, other), last)

    def test_a_thousand_steps(self):
        self.check_walk(AB, "aab", ((0, 1), (1, -1)) * 500, "aab")
        self.check_walk(AB, "aab", ((0, 1), (1, -1)) * 499 + ((0, 1),), "baa")
        self.check_wrong(NotPossible, 999, AB, "aab", ((0, 1), (1, -1)) * 499 + ((0, 1), (0, 1)))

    def test_the_first_and_the_last_place(self):
        roster = (("a", 1), ("b", 0))
        self.check_walk(roster, "a" + "b" * 11, ((0, 1),), "ba" + "b" * 10)
        self.check_walk(roster, "b" * 11 + "a", ((11, -1),), "b" * 10 + "ab")
        self.check_wrong(NotPossible, 0, roster, "b" * 11 + "a", ((11, 1),))
        self.check_wrong(NotPossible, 0, roster, "a" + "b" * 11, ((0, -1),))
        self.check_wrong(NotPossible, 0, roster, "ab", ((11, -1),))
        self.check_wrong(InvalidWalk, 0, roster, "ab", ((12, -1),))
        self.check_wrong(InvalidWalk, 0, roster, "ab", ((-1, 1),))

    def test_steps_on_the_empty_line(self):
        self.check_wrong(NotPossible, 0, AB, "", ((0, 1),))
        self.check_wrong(NotPossible, 0, AB, "", ((11, -1),))
        self.check_wrong(InvalidWalk, 0, AB, "", ((0, 0),))

    def test_a_wrong_item_comes_before_a_step_that_is_not_possible(self):
        self.check_wrong(InvalidWalk, 1, AB, "aab", ((0, -1), (0, 0)))
        self.check_wrong(InvalidWalk, 2, AB, "aab", ((0, -1), (5, 1), (12, 1), (0, 0)))
        self.check_wrong(InvalidWalk, 999, AB, "aab", ((0, -1),) * 999 + (None,))
        self.check_wrong(NotPossible, 0, AB, "aab", ((0, -1), (5, 1)))

    def test_only_the_first_step_that_is_not_possible_is_told(self):
        self.check_wrong(NotPossible, 1, AB, "aabb", ((0, 1), (11, 1), (0, 1)))
        self.check_wrong(NotPossible, 2, AB, "aabb", ((0, 1), (1, 1), (2, 1), (2, 1)))


if __name__ == "__main__":
    unittest.main()
