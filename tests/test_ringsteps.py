"""Points [6], [7], [8], [9] for rings: crewstep/ringsteps.py."""

import unittest

from crewstep.errors import InvalidBadge, InvalidPeople, InvalidRoster, InvalidWalk, NotPossible
from crewstep.people import turned
from crewstep.ringsteps import ring_after_walk, ring_crews_at, ring_steps_of, ring_undo_walk
from tests.checks import (
    A2B2, AB, LONG, THINGS, CrewTest, WalkChecks, ring_class_by_hand, ring_crews_by_hand,
    ring_steps_by_hand, small_rings,
)

A1B1 = (("a", 1), ("b", 1))
A3B1C0 = (("a", 3), ("b", 1), ("c", 0))
FOUR = (("p", 3), ("q", 2), ("r", 1), ("s", 5))
EACH_SIZE = tuple((("a", size),) for size in range(6))
ALL_STEPS = tuple((place, side) for place in range(12) for side in (1, -1))


class CrewsAtTest(CrewTest):
    def check_crews(self, places, roster, ring):
        self.check_returns(places, ring_crews_at, roster, ring)
        self.check_returns(places, ring_crews_at, ring=ring, roster=roster)

    def test_the_example(self):
        self.check_crews((2, 3), AB, "abaa")

    def test_rings_of_one_badge(self):
        for size, roster in enumerate(EACH_SIZE):
            for many in range(1, 13):
                self.check_crews(tuple(range(many)) if 1 <= size <= many else (), roster, "a" * many)

    def test_rings_of_one_and_of_two_people(self):
        self.check_crews((0,), A1B1, "a")
        self.check_crews((), AB, "a")
        self.check_crews((), AB, "b")
        self.check_crews((0, 1), A2B2, "aa")
        self.check_crews((), A2B2, "ab")
        self.check_crews((0, 1), A1B1, "ab")
        self.check_crews((1,), (("a", 0), ("b", 1)), "ab")

    def test_crews_around_the_end_of_the_string(self):
        self.check_crews((2,), AB, "aba")
        self.check_crews((3, 4), A3B1C0[:1] + A3B1C0[2:], "aacaa")
        self.check_crews((10, 11), (("p", 3), ("s", 5)), "ppsssspspspp")
        self.check_crews((11,), FOUR, "sssspspqpqps")

    def test_a_badge_of_size_zero_never_forms_a_crew(self):
        self.check_crews((), AB, "bbbb")
        self.check_crews((), (("a", 0),), "a" * 12)

    def test_all_small_rings(self):
        for roster, ring in small_rings():
            with self.subTest(roster=roster, ring=ring):
                self.check_same(ring_crews_at(roster, ring), tuple(ring_crews_by_hand(roster, ring)))

    def test_rings_of_twelve_people(self):
        for roster, ring in LONG:
            self.check_crews(tuple(ring_crews_by_hand(roster, ring)), roster, ring)

    def test_the_errors(self):
        self.check_roster_first(ring_crews_at, "a")
        self.check_roster_first(ring_crews_at, None)
        self.check_ring_next(ring_crews_at)
        self.check_raises(InvalidPeople, {"place": 1}, ring_crews_at, ring="ac", roster=AB)


class StepsOfTest(CrewTest):
    def check_steps(self, steps, roster, ring):
        self.check_returns(steps, ring_steps_of, roster, ring)
        self.check_returns(steps, ring_steps_of, badge=None, ring=ring, roster=roster)

    def test_the_example(self):
        self.check_steps(((2, -1), (2, 1)), AB, "aba")

    def test_the_steps_of_one_badge(self):
        self.check_steps(((0, -1), (0, 1), (2, -1), (2, 1)), A2B2, "aabb")
        self.check_returns(((0, -1), (0, 1)), ring_steps_of, A2B2, "aabb", badge="a")
        self.check_returns(((2, -1), (2, 1)), ring_steps_of, badge="b", ring="aabb", roster=A2B2)
        self.check_returns((), ring_steps_of, AB, "aabb", badge="b")
        self.check_returns((), ring_steps_of, FOUR, "qppp", badge="s")

    def test_the_badge_is_passed_by_name_only(self):
        with self.assertRaises(TypeError):
            ring_steps_of(AB, "aba", "b")

    def test_two_places(self):
        self.check_steps(((0, -1), (0, 1), (1, -1), (1, 1)), A1B1, "ab")
        self.check_steps(((1, -1), (1, 1)), (("a", 0), ("b", 1)), "ab")
        self.check_steps((), A1B1, "aa")
        self.check_steps((), A2B2, "aa")

    def test_one_place(self):
        for roster in EACH_SIZE:
            self.check_steps((), roster, "a")

    def test_rings_of_one_badge_have_no_steps(self):
        for roster in EACH_SIZE:
            for many in range(1, 13):
                self.check_steps((), roster, "a" * many)

    def test_a_crew_of_all_but_one(self):
        self.check_steps(((1, -1), (1, 1)), (("a", 3), ("b", 0)), "baaa")
        self.check_steps(((3, -1), (3, 1)), (("a", 3), ("b", 0)), "aaba")
        self.check_steps((), (("a", 4), ("b", 0)), "baaa")

    def test_a_neighbour_with_the_same_badge(self):
        self.check_steps(((1, -1), (2, 1)), AB, "baaa")
        self.check_steps(((2, -1), (3, 1)), AB, "abaa")

    def test_the_end_of_the_string(self):
        self.check_steps(((0, -1), (0, 1)), (("a", 2), ("b", 0)), "aabbb")
        self.check_steps(((3, -1), (3, 1)), (("a", 2), ("b", 0)), "bbbaa")
        self.check_steps(((4, -1), (4, 1)), (("a", 2), ("b", 0)), "abbba")

    def test_all_small_rings(self):
        for roster, ring in small_rings():
            with self.subTest(roster=roster, ring=ring):
                expected = sorted(ring_steps_by_hand(roster, ring))
                self.check_same(ring_steps_of(roster, ring), tuple(expected))
                for badge, _ in roster:
                    own = tuple(step for step in expected if ring[step[0]] == badge)
                    self.check_same(ring_steps_of(roster, ring, badge=badge), own)

    def test_rings_of_twelve_people(self):
        for roster, ring in LONG:
            self.check_steps(tuple(sorted(ring_steps_by_hand(roster, ring))), roster, ring)

    def test_badges_outside_of_the_roster(self):
        for badge in THINGS + ("c", "B", "aabb", "ba", ("a",), {"b": 2}, ["b"]):
            if badge is None or badge == "a":
                continue
            with self.subTest(badge=badge):
                fields = {"badge": badge}
                self.check_raises(InvalidBadge, fields, ring_steps_of, A2B2, "aabb", badge=badge)
                self.check_raises(InvalidBadge, fields, ring_steps_of, A2B2, "a", badge=badge)

    def test_the_roster_and_the_ring_come_before_the_badge(self):
        self.check_roster_first(ring_steps_of, "c")
        self.check_ring_next(ring_steps_of)
        for badge in ("c", 7, ["a"], {}, ""):
            self.check_raises(InvalidRoster, {"entry": 0}, ring_steps_of, (None,), "c", badge=badge)
            self.check_raises(InvalidPeople, {"place": 0}, ring_steps_of, AB, "c", badge=badge)
            self.check_raises(InvalidPeople, {"place": None}, ring_steps_of, AB, "", badge=badge)


class WalkTest(WalkChecks, CrewTest):
    walks = (ring_after_walk, ring_undo_walk)
    people = "ring"

    def check_walk(self, roster, ring, walk, after):
        self.check_returns(after, ring_after_walk, roster, ring, walk)
        self.check_returns(after, ring_after_walk, walk=walk, ring=ring, roster=roster)
        back = ring_undo_walk(roster, ring, walk)
        self.check_returns(back, ring_undo_walk, walk=walk, ring=ring, roster=roster)
        self.check_returns(ring, ring_after_walk, roster, after, back)
        self.check_returns(walk, ring_undo_walk, roster, after, back)

    def test_the_examples(self):
        self.check_walk(AB, "aba", ((2, 1),), "aab")
        self.check_returns(((0, -1),), ring_undo_walk, AB, "aba", ((2, 1),))

    def test_no_step(self):
        for roster, ring in LONG + ((AB, "a"), (AB, "b"), (FOUR, "s")):
            self.check_walk(roster, ring, (), ring)
            self.check_returns((), ring_undo_walk, roster, ring, ())

    def test_around_the_ring(self):
        self.check_walk(AB, "aabbb", ((0, 1), (1, 1), (2, 1), (3, 1), (4, 1)), "aabbb")
        self.check_walk(AB, "aabbb", ((0, 1), (1, 1), (2, 1)), "bbbaa")
        self.check_walk(AB, "bbbaa", ((3, 1),), "abbba")
        self.check_walk(AB, "abbba", ((4, 1),), "aabbb")
        self.check_walk(AB, "aabbb", ((0, -1),), "abbba")
        self.check_walk(AB, "abbba", ((4, -1),), "bbbaa")
        self.check_walk(AB, "aabbb", ((0, -1), (4, -1), (3, -1), (2, -1), (1, -1)), "aabbb")

    def test_a_crew_of_all_but_one(self):
        self.check_walk(AB, "aab", ((0, 1),), "baa")
        self.check_walk(AB, "aab", ((0, -1),), "aba")
        self.check_walk(AB, "aab", ((0, 1), (1, 1), (2, 1)), "aab")

    def test_two_places(self):
        for walk in (((0, 1),), ((0, -1),), ((1, 1),), ((1, -1),)):
            self.check_walk(A1B1, "ab", walk, "ba")
        self.check_returns(((1, -1),), ring_undo_walk, A1B1, "ab", ((0, 1),))
        self.check_returns(((1, 1),), ring_undo_walk, A1B1, "ab", ((0, -1),))
        self.check_returns(((0, -1),), ring_undo_walk, A1B1, "ab", ((1, 1),))

    def test_the_opposites_at_the_end_of_the_string(self):
        roster = (("a", 1), ("b", 0))
        self.check_returns(((0, -1),), ring_undo_walk, roster, "b" * 11 + "a", ((11, 1),))
        self.check_returns(((11, 1),), ring_undo_walk, roster, "a" + "b" * 11, ((0, -1),))
        self.check_returns(((10, 1), (11, 1)), ring_undo_walk, roster, "a" + "b" * 11, ((0, -1), (11, -1)))

    def test_each_step_of_small_rings_and_its_opposite(self):
        for roster, ring in small_rings():
            with self.subTest(roster=roster, ring=ring):
                for (place, side), after in ring_steps_by_hand(roster, ring).items():
                    walk = ((place, side),)
                    back = (((place + side) % len(ring), -side),)
                    self.check_same(ring_after_walk(roster, ring, walk), after)
                    self.check_same(ring_undo_walk(roster, ring, walk), back)
                    self.check_same(ring_after_walk(roster, after, back), ring)
                    self.check_same(ring_after_walk(roster, ring, walk + back), ring)

    def test_each_step_that_is_not_possible_on_small_rings(self):
        for roster, ring in small_rings():
            if len(ring) <= 4:
                possible = ring_steps_by_hand(roster, ring)
                for step in ALL_STEPS:
                    if step not in possible:
                        self.check_wrong(NotPossible, 0, roster, ring, (step,))

    def test_steps_of_rings_of_twelve_people(self):
        for roster, ring in LONG:
            possible = ring_steps_by_hand(roster, ring)
            for step in ALL_STEPS:
                if step in possible:
                    self.check_walk(roster, ring, (step,), possible[step])
                else:
                    self.check_wrong(NotPossible, 0, roster, ring, (step,))

    def test_the_same_steps_on_a_ring_that_is_turned(self):
        for roster, ring in LONG:
            for by in (1, 5, 11):
                steps = sorted(((place + by) % 12, side) for place, side in ring_steps_by_hand(roster, ring))
                self.check_returns(tuple(steps), ring_steps_of, roster, turned(roster, ring, by))

    def test_walks_stay_in_the_class(self):
        for ring in sorted(ring_class_by_hand(A2B2, "abbaab")):
            for step, after in ring_steps_by_hand(A2B2, ring).items():
                for other, last in ring_steps_by_hand(A2B2, after).items():
                    self.check_walk(A2B2, ring, (step, other), last)

    def test_a_thousand_steps(self):
        self.check_walk(AB, "aab", ((0, 1), (1, -1)) * 500, "aab")
        self.check_walk(AB, "aab", (((0, 1), (1, 1), (2, 1)) * 334)[:1000], "baa")
        self.check_wrong(NotPossible, 999, AB, "aab", ((0, 1), (1, -1)) * 499 + ((0, 1), (0, 1)))

    def test_places_beyond_the_ring(self):
        self.check_wrong(NotPossible, 0, AB, "aab", ((3, 1),))
        self.check_wrong(NotPossible, 0, AB, "aab", ((3, -1),))
        self.check_wrong(NotPossible, 0, AB, "aab", ((11, 1),))
        self.check_wrong(NotPossible, 0, A1B1, "ab", ((2, 1),))
        self.check_wrong(InvalidWalk, 0, AB, "aab", ((12, 1),))
        self.check_wrong(InvalidWalk, 0, AB, "aab", ((-1, 1),))
        self.check_wrong(NotPossible, 1, AB, "aab", ((0, 1), (4, 1)))

    def test_crews_without_a_neighbour(self):
        self.check_wrong(NotPossible, 0, A1B1, "a", ((0, 1),))
        self.check_wrong(NotPossible, 0, A2B2, "aa", ((0, 1),))
        self.check_wrong(NotPossible, 0, A2B2, "aa", ((1, -1),))
        self.check_wrong(NotPossible, 0, A2B2, "aaa", ((1, -1),))
        self.check_wrong(NotPossible, 0, AB, "abb", ((0, 1),))

    def test_the_empty_string_is_no_ring(self):
        for function in self.walks:
            for walk in ((), None, [], ((0, 0),), ((0, 1),), (None,) * 1001):
                self.check_ring_next(function, walk)

    def test_a_wrong_item_comes_before_a_step_that_is_not_possible(self):
        self.check_wrong(InvalidWalk, 1, AB, "aab", ((2, 1), (0, 0)))
        self.check_wrong(InvalidWalk, 2, AB, "aab", ((2, 1), (5, 1), (12, 1), (0, 0)))
        self.check_wrong(InvalidWalk, 999, AB, "aab", ((2, 1),) * 999 + (None,))
        self.check_wrong(NotPossible, 0, AB, "aab", ((2, 1), (5, 1)))

    def test_only_the_first_step_that_is_not_possible_is_told(self):
        self.check_wrong(NotPossible, 1, AB, "aabb", ((0, 1), (11, 1), (0, 1)))
        self.check_wrong(NotPossible, 2, AB, "aabb", ((0, 1), (1, 1), (1, 1), (1, 1)))


if __name__ == "__main__":
    unittest.main()
