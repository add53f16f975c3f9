"""Points [10], [12], [13] for rings: crewstep/ringreadings.py."""

import itertools
import unittest

from crewstep.errors import InvalidPeople, InvalidReading, InvalidRoster
from crewstep.people import turned
from crewstep.ringreadings import (
    divisor_of, ring_core_of, ring_crew_counts, ring_is_complete, ring_left_by, ring_reading_of,
)
from tests.checks import (
    A2B2, AB, LONG, NO_TUPLES, CrewTest, divisor_by_hand, is_valid_on_ring_by_hand, ring_form_by_hand,
    ring_readings_by_hand, ring_steps_by_hand, rotations_of, small_rings,
)

A3B1C0 = (("a", 3), ("b", 1), ("c", 0))
A4B0 = (("a", 4), ("b", 0))
FOUR = (("p", 3), ("q", 2), ("r", 1), ("s", 5))
OF_RINGS = (ring_reading_of, ring_core_of, ring_crew_counts, divisor_of)
OF_READINGS = (ring_left_by, ring_is_complete)

# What is no deletion of the ring "abaaba" with A2B2, at whatever index of a reading it stands.
WRONG_DELETIONS = NO_TUPLES + (
    (), (5,), (5, 0, 5), (5, 0, 0), (5, 5), (0, 5), (3, 2), [5, 0], {5: 0}, "50", ((5, 0),), (5, 0, 2, 3),
    (0, 1), (0, 2), (1, 4), (3, 5), (4, 5), (5, 6), (6, 0), (5, 12), (-1, 0), (5, -6), (11, 0), (5, True),
    (5, False), (None, 0), (5, None), ("5", "0"), ((5,), (0,)), ([5], 0), (5, {0: 0}), (10 ** 29, 0),
    (5, 10 ** 29), (0, 2, 3), (5, 0, 2), (5, 0) * 2, (5, 0) * 1000, tuple(range(6)),
)


class ReadingOfTest(CrewTest):
    def check_reading(self, roster, ring):
        """The reading is valid, by the definition, at each deletion, and complete."""
        reading = ring_reading_of(roster, ring)
        self.check_returns(reading, ring_reading_of, ring=ring, roster=roster)
        self.assertIs(type(reading), tuple)
        left = set(range(len(ring)))
        for deletion in reading:
            self.assertIs(type(deletion), tuple)
            self.assertTrue(is_valid_on_ring_by_hand(roster, ring, left, deletion), (ring, reading))
            left -= set(deletion)
        self.check_returns(tuple(sorted(left)), ring_left_by, roster, ring, reading)
        self.check_returns(True, ring_is_complete, roster, ring, reading)
        # Nobody can be deleted any more: no order of any places that are left.
        for size in {size for _, size in roster if 1 <= size <= len(left)}:
            row = sorted(left) * 2
            for first in range(len(left)):
                more = tuple(row[first:first + size])
                self.assertFalse(is_valid_on_ring_by_hand(roster, ring, left, more), (ring, reading))

    def test_the_example(self):
        self.check_returns(((2, 0),), ring_reading_of, AB, "aba")

    def test_nothing_to_delete(self):
        for roster, ring in ((AB, "a"), (AB, "bbbb"), (A2B2, "abab"), (A4B0, "aaa"), (FOUR, "sspssqpq")):
            self.check_returns((), ring_reading_of, roster, ring)

    def test_rings_of_one_badge(self):
        for size in range(6):
            for many in range(1, 13):
                self.check_reading((("a", size),), "a" * many)

    def test_crews_around_the_end_of_the_string(self):
        self.check_returns(((11, 0),), ring_reading_of, AB, "a" + "b" * 10 + "a")
        self.check_reading(A2B2, "abba")
        self.check_reading(A2B2, "baab")
        self.check_reading(FOUR, "ssqpppqsss")

    def test_all_small_rings(self):
        for roster, ring in small_rings():
            with self.subTest(roster=roster, ring=ring):
                self.check_reading(roster, ring)

    def test_rings_of_twelve_people(self):
        for roster, ring in LONG:
            with self.subTest(roster=roster, ring=ring):
                self.check_reading(roster, ring)


class GivenReadingTest(CrewTest):
    def check_given(self, roster, ring, reading, left, complete):
        self.check_returns(left, ring_left_by, roster, ring, reading)
        self.check_returns(left, ring_left_by, reading=reading, ring=ring, roster=roster)
        self.check_returns(complete, ring_is_complete, roster, ring, reading)
        self.check_returns(complete, ring_is_complete, reading=reading, ring=ring, roster=roster)

    def check_wrong(self, index, roster, ring, reading):
        for function in OF_READINGS:
            self.check_raises(InvalidReading, {"index": index}, function, roster, ring, reading)

    def test_the_examples(self):
        self.check_given(AB, "aba", ((2, 0),), (1,), True)
        self.check_wrong(0, AB, "aba", ((0, 2),))
        self.check_given(AB, "aba", (), (0, 1, 2), False)

    def test_no_deletion(self):
        self.check_given(AB, "a", (), (0,), True)
        self.check_given(AB, "bbbb", (), (0, 1, 2, 3), True)
        self.check_given(AB, "ab", (), (0, 1), True)
        self.check_given(AB, "aa", (), (0, 1), False)
        self.check_given((("a", 1), ("b", 0)), "bab", (), (0, 1, 2), False)
        self.check_given((("a", 1),), "a", (), (0,), False)
        self.check_given((("a", 5),), "aaaa", (), (0, 1, 2, 3), True)

    def test_each_order_of_the_last_people_around_the_ring(self):
        for size in range(1, 6):
            roster = (("a", size),)
            for first in range(size):
                order = tuple((first + by) % size for by in range(size))
                self.check_given(roster, "a" * size, (order,), (), True)
            for order in itertools.permutations(range(size)):
                if any((place + 1) % size != other for place, other in zip(order, order[1:])):
                    self.check_wrong(0, roster, "a" * size, (order,))

    def test_the_last_people_of_a_larger_ring(self):
        roster = (("a", 3), ("b", 1))
        reading = ((1,), (2,), (4,), (6,))
        for order in ((0, 3, 5), (3, 5, 0), (5, 0, 3)):
            self.check_given(roster, "abbabab", reading + (order,), (), True)
        for order in ((0, 5, 3), (3, 0, 5), (5, 3, 0), (0, 3), (3, 5), (0, 3, 5, 0)):
            self.check_wrong(4, roster, "abbabab", reading + (order,))

    def test_more_people_are_left_than_a_crew(self):
        for order in ((0, 1), (1, 2), (2, 0)):
            left = tuple(place for place in range(3) if place not in order)
            self.check_given(AB, "aaa", (order,), left, True)
            self.check_wrong(0, AB, "aaa", (order[::-1],))

    def test_fewer_people_are_left_than_a_crew(self):
        self.check_wrong(0, A4B0, "aaa", ((0, 1, 2, 0),))
        self.check_wrong(0, A4B0, "aaa", ((0, 1, 2),))
        self.check_wrong(0, AB, "a", ((0, 0),))
        self.check_wrong(0, AB, "a", ((0,),))
        self.check_wrong(1, A4B0, "aaaaaa", ((1, 2, 3, 4), (5, 0, 5, 0)))
        self.check_given(A4B0, "aaaaaa", ((1, 2, 3, 4),), (0, 5), True)

    def test_crews_around_the_end_of_the_string(self):
        self.check_given(A2B2, "abba", ((3, 0),), (1, 2), False)
        self.check_given(A2B2, "abba", ((3, 0), (1, 2)), (), True)
        self.check_given(A2B2, "abba", ((3, 0), (2, 1)), (), True)
        self.check_given(A2B2, "abba", ((1, 2), (0, 3)), (), True)
        self.check_given(A2B2, "abba", ((1, 2), (3, 0)), (), True)
        self.check_wrong(0, A2B2, "abba", ((0, 3),))
        self.check_given(A3B1C0, "aacaa", ((3, 4, 0),), (1, 2), True)
        self.check_given(A3B1C0, "aacaa", ((4, 0, 1),), (2, 3), True)
        self.check_wrong(0, A3B1C0, "aacaa", ((0, 1, 3),))

    def test_people_who_come_to_stand_together(self):
        self.check_given(A3B1C0, "abcaa", ((1,),), (0, 2, 3, 4), False)
        self.check_given(A3B1C0, "abcaab", ((1,), (5,), (3, 4, 0)), (2,), True)
        self.check_wrong(0, A3B1C0, "abcaab", ((3, 4, 0),))
        self.check_wrong(2, A3B1C0, "abcaab", ((1,), (5,), (0, 3, 4)))

    def test_the_deletion_of_nobody(self):
        self.check_wrong(0, (("a", 0),), "aa", ((),))
        self.check_wrong(1, AB, "aa", ((0, 1), ()))

    def test_all_readings_of_small_rings(self):
        for roster, ring in small_rings():
            with self.subTest(roster=roster, ring=ring):
                for left, (reading, complete) in ring_readings_by_hand(roster, ring).items():
                    self.check_same(ring_left_by(roster, ring, reading), tuple(sorted(left)))
                    self.check_same(ring_is_complete(roster, ring, reading), complete)

    def test_all_tuples_of_places_of_small_rings(self):
        for roster, ring in ((A2B2, "abba"), (A2B2, "aabb"), (AB, "aaba"), (A3B1C0, "aaab"), (A4B0, "aaaa")):
            for many in range(6):
                for deletion in itertools.product(range(-1, 5), repeat=many):
                    if is_valid_on_ring_by_hand(roster, ring, set(range(4)), deletion):
                        left = tuple(place for place in range(4) if place not in deletion)
                        self.check_same(ring_left_by(roster, ring, (deletion,)), left)
                    else:
                        with self.assertRaises(InvalidReading) as caught:
                            ring_left_by(roster, ring, (deletion,))
                        self.check_same(caught.exception.index, 0)

    def test_a_deletion_that_is_made_twice(self):
        self.check_wrong(1, A2B2, "aabb", ((0, 1), (0, 1)))
        self.check_wrong(1, A2B2, "aa", ((0, 1), (1, 0)))
        self.check_wrong(1, AB, "aab", ((0, 1),) * 2000)

    def test_objects_that_are_no_tuples(self):
        for reading in NO_TUPLES + ([(2, 0)], {(2, 0): 1}):
            with self.subTest(reading=reading):
                self.check_wrong(None, AB, "aba", reading)
                self.check_wrong(None, AB, "b", reading)

    def test_objects_that_are_no_deletions(self):
        for item in WRONG_DELETIONS:
            with self.subTest(item=item):
                self.check_wrong(0, A2B2, "abaaba", (item,))
                self.check_wrong(0, A2B2, "abaaba", (item, (2, 3)))
        for item in (None, (5, 0), [1, 4], (1, 5), (True, 4), (1,), ()):
            with self.subTest(item=item):
                self.check_wrong(2, A2B2, "abaaba", ((5, 0), (2, 3), item, None))
        self.check_given(A2B2, "abaaba", ((5, 0), (2, 3), (4, 1)), (), True)

    def test_true_and_false_are_no_places(self):
        self.check_wrong(0, AB, "aa", ((False, True),))
        self.check_wrong(0, AB, "aa", ((True, 0),))
        self.check_wrong(0, (("a", 1),), "aa", ((True,),))
        self.check_wrong(0, (("a", 1),), "aa", ((False,),))

    def test_the_roster_and_the_ring_come_before_the_reading(self):
        for function in OF_READINGS:
            for reading in ((), None, [], ((0, 1),), (None,)):
                self.check_roster_first(function, "c", reading)
                self.check_ring_next(function, reading)
            self.check_raises(InvalidRoster, {"entry": 0}, function, reading=7, ring=7, roster=(7,))
            self.check_raises(InvalidPeople, {"place": None}, function, reading=7, ring="", roster=AB)


class CoreOfTest(CrewTest):
    def check_all(self, roster, ring, core, crews, divisor):
        self.check_returns(core, ring_core_of, roster, ring)
        self.check_returns(core, ring_core_of, ring=ring, roster=roster)
        self.check_returns(crews, ring_crew_counts, roster, ring)
        self.check_returns(crews, ring_crew_counts, ring=ring, roster=roster)
        self.check_returns(divisor, divisor_of, roster, ring)
        self.check_returns(divisor, divisor_of, ring=ring, roster=roster)

    def test_the_examples(self):
        self.check_all(A2B2, "baaa", "ab", (1, 0), 2)
        self.check_all(AB, "aba", "b", (1, 0), 1)
        self.check_all(AB, "abab", "abab", (0, 0), 4)

    def test_rings_of_one_badge(self):
        for size in range(6):
            for many in range(1, 13):
                left, crews = (many % size, many // size) if size else (many, 0)
                divisor = max(d for d in range(1, 13) if many % d == 0 and (crews == 0 or size % d == 0))
                self.check_all((("a", size),), "a" * many, "a" * left, (crews,), divisor)

    def test_rings_of_one_and_of_two_people(self):
        self.check_all(AB, "b", "b", (0, 0), 1)
        self.check_all((("a", 1), ("b", 1)), "b", "", (0, 1), 1)
        self.check_all((("a", 1), ("b", 1)), "ba", "", (1, 1), 1)
        self.check_all(A2B2, "ba", "ab", (0, 0), 2)
        self.check_all(A2B2, "bb", "", (0, 1), 2)

    def test_the_least_rotation(self):
        self.check_all(AB, "bbab", "abbb", (0, 0), 4)
        self.check_all(AB, "babab", "ababb", (0, 0), 5)
        self.check_all((("a", 3), ("b", 3)), "babaab", "aabbab", (0, 0), 6)
        self.check_all(FOUR, "sspq", "pqss", (0, 0, 0, 0), 4)
        self.check_all((("x", 0), ("y", 0)), "yxyxyx", "xyxyxy", (0, 0), 6)

    def test_crews_around_the_end_of_the_string(self):
        self.check_all(A2B2, "abba", "", (1, 1), 2)
        self.check_all(AB, "abbba", "bbb", (1, 0), 1)
        self.check_all(FOUR, "ssqpppqsss", "", (1, 1, 0, 1), 1)
        self.check_all(FOUR, "ssqpppqsssss", "ss", (1, 1, 0, 1), 1)

    def test_divisors(self):
        two_four = (("a", 2), ("b", 4))
        self.check_all(two_four, "aabbbb", "", (1, 1), 2)
        self.check_all(two_four, "abbbba", "", (1, 1), 2)
        self.check_all(two_four, "abbbbb", "ab", (0, 1), 2)
        self.check_all(two_four, "abbbbbab", "abab", (0, 1), 4)
        self.check_all(two_four, "babab" + "b" * 7, "abab", (0, 2), 4)
        self.check_all((("a", 3), ("b", 0)), "aaabbb", "bbb", (1, 0), 3)
        self.check_all((("a", 3), ("b", 0)), "aaabb", "bb", (1, 0), 1)
        self.check_all((("a", 4), ("b", 0)), "aaaabb", "bb", (1, 0), 2)
        self.check_all((("a", 5), ("b", 5)), "aaaaabbbbb", "", (1, 1), 5)
        self.check_all((("a", 3), ("b", 2)), "aaaaaabbbbbb", "", (2, 3), 1)

    def test_all_readings_of_small_rings_leave_the_same(self):
        for roster, ring in small_rings():
            with self.subTest(roster=roster, ring=ring):
                core, crews = ring_core_of(roster, ring), ring_crew_counts(roster, ring)
                self.assertEqual(core, min(rotations_of(core), default=""))
                for left, (reading, done) in ring_readings_by_hand(roster, ring).items():
                    if done:
                        word = "".join(ring[place] for place in sorted(left))
                        self.assertIn(core, rotations_of(word) or [""])
                        deleted = [ring[deletion[0]] for deletion in reading]
                        self.check_same(crews, tuple(deleted.count(badge) for badge, _ in roster))
                self.check_same(divisor_of(roster, ring), divisor_by_hand(roster, ring, core))

    def test_a_step_changes_nothing_here(self):
        for roster, ring in small_rings():
            expected = [function(roster, ring) for function in OF_RINGS[1:]]
            for after in ring_steps_by_hand(roster, ring).values():
                self.check_same([function(roster, after) for function in OF_RINGS[1:]], expected)

    def test_rings_of_twelve_people_wherever_their_string_begins(self):
        for roster, ring in LONG:
            _, core, _ = ring_form_by_hand(roster, ring)
            crews = tuple(
                (ring.count(badge) - core.count(badge)) // max(size, 1) for badge, size in roster
            )
            for by in range(12):
                divisor = divisor_by_hand(roster, ring, core)
                self.check_all(roster, turned(roster, ring, by), core, crews, divisor)

    def test_the_errors(self):
        for function in OF_RINGS:
            self.check_roster_first(function, "a")
            self.check_roster_first(function, None)
            self.check_ring_next(function)
            self.check_raises(InvalidRoster, {"entry": 0}, function, ring=7, roster=(7,))
            self.check_raises(InvalidPeople, {"place": 1}, function, ring="ac", roster=AB)


if __name__ == "__main__":
    unittest.main()
