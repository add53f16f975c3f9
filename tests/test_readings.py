"""Points [10], [11], [13] for lines: crewstep/readings.py."""

import itertools
import unittest

from crewstep.errors import InvalidPeople, InvalidReading, InvalidRoster
from crewstep.readings import core_of, crew_counts, is_complete, left_by, reading_of
from tests.checks import (
    A2B2, AB, LONG, NO_TUPLES, CrewTest, core_by_hand, is_valid_by_hand, readings_by_hand, small_lines,
    steps_by_hand,
)

A3B1C0 = (("a", 3), ("b", 1), ("c", 0))
FOUR = (("p", 3), ("q", 2), ("r", 1), ("s", 5))
OF_LINES = (reading_of, core_of, crew_counts)
OF_READINGS = (left_by, is_complete)

# What is no deletion of the line "baabaa" with A2B2, at whatever index of a reading it stands.
WRONG_DELETIONS = NO_TUPLES + (
    (), (1,), (1, 2, 1), (1, 2, 2), (1, 1), (2, 1), [1, 2], {1: 2}, "12", ((1, 2),), (1, 2, 4, 5),
    (0, 1), (0, 3), (2, 4), (1, 4), (1, 5), (2, 3), (5, 4), (5, 6), (6, 7), (4, 6), (-2, -1),
    (4, -1), (-1, 0), (-5, -4), (True, 2), (False, 3), (1, True), (1, None), (None, 2), ("1", "2"),
    (1, "2"), ((1,), (2,)), ([1], 2), (1, {2: 2}), (10 ** 29, 10 ** 29 + 1), (1, 10 ** 29), (4, 5, 6),
    tuple(range(6)),
)


def deletions_of(reading, line, badge):
    return len([deletion for deletion in reading if line[deletion[0]] == badge])


class ReadingOfTest(CrewTest):
    def check_reading(self, roster, line):
        """The reading is valid, by the definition, at each deletion, and complete."""
        reading = reading_of(roster, line)
        self.check_returns(reading, reading_of, line=line, roster=roster)
        self.assertIs(type(reading), tuple)
        left = set(range(len(line)))
        for deletion in reading:
            self.assertIs(type(deletion), tuple)
            self.assertTrue(is_valid_by_hand(roster, line, left, deletion), (line, reading))
            left -= set(deletion)
        word = "".join(line[place] for place in sorted(left))
        self.assertEqual(core_by_hand(roster, word), word)
        self.check_returns(tuple(sorted(left)), left_by, roster, line, reading)
        self.check_returns(True, is_complete, roster, line, reading)

    def test_the_example(self):
        self.check_returns(((1, 2), (0, 3)), reading_of, A2B2, "baab")

    def test_nothing_to_delete(self):
        for roster, line in ((AB, ""), (AB, "a"), (AB, "bbbb"), (A2B2, "abab"), (FOUR, "sssspps")):
            self.check_returns((), reading_of, roster, line)

    def test_crews_of_one_person(self):
        self.check_reading((("a", 1),), "aaa")
        self.check_returns(((1,),), reading_of, (("a", 1), ("b", 0)), "bab")

    def test_all_small_lines(self):
        for roster, line in small_lines():
            with self.subTest(roster=roster, line=line):
                self.check_reading(roster, line)

    def test_lines_of_twelve_people(self):
        for roster, line in LONG:
            with self.subTest(roster=roster, line=line):
                self.check_reading(roster, line)


class GivenReadingTest(CrewTest):
    def check_given(self, roster, line, reading, left, complete):
        self.check_returns(left, left_by, roster, line, reading)
        self.check_returns(left, left_by, reading=reading, line=line, roster=roster)
        self.check_returns(complete, is_complete, roster, line, reading)
        self.check_returns(complete, is_complete, reading=reading, line=line, roster=roster)

    def check_wrong(self, index, roster, line, reading):
        for function in OF_READINGS:
            self.check_raises(InvalidReading, {"index": index}, function, roster, line, reading)

    def test_the_examples(self):
        self.check_given(A2B2, "baab", ((1, 2),), (0, 3), False)
        self.check_wrong(0, A2B2, "baab", ((0, 3),))

    def test_no_deletion(self):
        self.check_given(AB, "", (), (), True)
        self.check_given(AB, "aba", (), (0, 1, 2), True)
        self.check_given(AB, "baa", (), (0, 1, 2), False)
        self.check_given(AB, "bbbb", (), (0, 1, 2, 3), True)
        self.check_given((("a", 1), ("b", 0)), "bab", (), (0, 1, 2), False)

    def test_crews_inside_of_crews(self):
        line = "abccba"
        roster = (("a", 2), ("b", 2), ("c", 2))
        self.check_given(roster, line, ((2, 3),), (0, 1, 4, 5), False)
        self.check_given(roster, line, ((2, 3), (1, 4)), (0, 5), False)
        self.check_given(roster, line, ((2, 3), (1, 4), (0, 5)), (), True)
        self.check_wrong(0, roster, line, ((1, 4), (2, 3)))
        self.check_wrong(1, roster, line, ((2, 3), (0, 5), (1, 4)))

    def test_overlapping_crews(self):
        self.check_given(A3B1C0, "aaaac", ((0, 1, 2),), (3, 4), True)
        self.check_given(A3B1C0, "aaaac", ((1, 2, 3),), (0, 4), True)
        self.check_wrong(1, A3B1C0, "aaaac", ((1, 2, 3), (0, 1, 2)))
        self.check_given(AB, "aaa", ((1, 2),), (0,), True)

    def test_people_who_come_to_stand_together(self):
        self.check_given(A3B1C0, "abaab", ((1,), (0, 2, 3)), (4,), False)
        self.check_given(A3B1C0, "abaab", ((1,), (0, 2, 3), (4,)), (), True)
        self.check_wrong(0, A3B1C0, "abaab", ((0, 2, 3), (1,)))

    def test_the_deletion_of_nobody(self):
        self.check_wrong(0, (("a", 0),), "aa", ((),))
        self.check_wrong(0, (("a", 0),), "", ((),))
        self.check_wrong(1, AB, "aa", ((0, 1), ()))

    def test_each_number_of_one_badge(self):
        for size, many in itertools.product(range(6), range(13)):
            line = "a" * many
            for length in range(1, 7):
                if length == size <= many:
                    left = tuple(range(length, many))
                    self.check_given((("a", size),), line, (tuple(range(length)),), left, len(left) < size)
                else:
                    self.check_wrong(0, (("a", size),), line, (tuple(range(length)),))

    def test_all_readings_of_small_lines(self):
        for roster, line in small_lines():
            with self.subTest(roster=roster, line=line):
                for left, (reading, complete) in readings_by_hand(roster, line).items():
                    self.check_same(left_by(roster, line, reading), tuple(sorted(left)))
                    self.check_same(is_complete(roster, line, reading), complete)

    def test_all_tuples_of_places_of_small_lines(self):
        for roster, line in ((A2B2, "abba"), (A2B2, "aabb"), (AB, "aaba"), (A3B1C0, "aaab")):
            for many in range(5):
                for deletion in itertools.product(range(-1, 5), repeat=many):
                    if is_valid_by_hand(roster, line, set(range(4)), deletion):
                        left = tuple(place for place in range(4) if place not in deletion)
                        self.check_same(left_by(roster, line, (deletion,)), left)
                    else:
                        with self.assertRaises(InvalidReading) as caught:
                            left_by(roster, line, (deletion,))
                        self.check_same(caught.exception.index, 0)

    def test_a_deletion_that_is_made_twice(self):
        self.check_wrong(1, A2B2, "aabb", ((0, 1), (0, 1)))
        self.check_wrong(2, A2B2, "aabb", ((0, 1), (2, 3), (0, 1)))
        self.check_wrong(1, AB, "aab", ((0, 1),) * 2000)

    def test_the_first_and_the_last_place(self):
        roster = (("a", 1), ("b", 0))
        self.check_given(roster, "a" + "b" * 11, ((0,),), tuple(range(1, 12)), True)
        self.check_given(roster, "b" * 11 + "a", ((11,),), tuple(range(11)), True)
        self.check_wrong(0, roster, "a" * 12, ((12,),))
        self.check_wrong(0, roster, "a" * 12, ((-1,),))
        self.check_given(roster, "a" * 12, tuple((place,) for place in range(11, -1, -1)), (), True)

    def test_objects_that_are_no_tuples(self):
        for reading in NO_TUPLES + ([(1, 2)], {(1, 2): 1}):
            with self.subTest(reading=reading):
                self.check_wrong(None, A2B2, "baab", reading)
                self.check_wrong(None, A2B2, "", reading)

    def test_objects_that_are_no_deletions(self):
        for item in WRONG_DELETIONS:
            with self.subTest(item=item):
                self.check_wrong(0, A2B2, "baabaa", (item,))
                self.check_wrong(0, A2B2, "baabaa", (item, (1, 2)))
        for item in (None, (1, 2), [0, 3], (3, 0), (0, 4), (True, 3), (0,), ()):
            with self.subTest(item=item):
                self.check_wrong(1, A2B2, "baabaa", ((1, 2), item))
                self.check_wrong(2, A2B2, "baabaa", ((4, 5), (1, 2), item, None))

    def test_true_and_false_are_no_places(self):
        self.check_wrong(0, AB, "aa", ((False, True),))
        self.check_wrong(0, AB, "aa", ((0, True),))
        self.check_wrong(0, (("a", 1),), "aa", ((True,),))
        self.check_wrong(0, (("a", 1),), "aa", ((False,),))

    def test_the_roster_and_the_line_come_before_the_reading(self):
        for function in OF_READINGS:
            for reading in ((), None, [], ((0, 1),), (None,)):
                self.check_roster_first(function, "c", reading)
                self.check_line_next(function, reading)
            self.check_raises(InvalidRoster, {"entry": 0}, function, reading=7, line=7, roster=(7,))
            self.check_raises(InvalidPeople, {"place": None}, function, reading=7, line=7, roster=AB)


class CoreOfTest(CrewTest):
    def test_the_examples(self):
        self.check_returns("aca", core_of, A3B1C0, "acaaaba")
        self.check_returns("aca", core_of, line="acaaaba", roster=A3B1C0)
        self.check_returns((1, 1, 0), crew_counts, A3B1C0, "acaaaba")
        self.check_returns((1, 1, 0), crew_counts, line="acaaaba", roster=A3B1C0)

    def test_the_empty_line(self):
        self.check_returns("", core_of, AB, "")
        self.check_returns((0, 0), crew_counts, AB, "")
        self.check_returns((0, 0, 0, 0), crew_counts, FOUR, "")

    def test_each_size_and_each_number_of_people(self):
        for size, many in itertools.product(range(6), range(13)):
            left, crews = (many % size, many // size) if size else (many, 0)
            self.check_returns("a" * left, core_of, (("a", size),), "a" * many)
            self.check_returns((crews,), crew_counts, (("a", size),), "a" * many)

    def test_crews_inside_of_crews(self):
        self.check_returns("", core_of, A2B2, "abbaabba")
        self.check_returns((2, 2), crew_counts, A2B2, "abbaabba")
        self.check_returns("", core_of, FOUR, "ssqpppqrssrs")
        self.check_returns((1, 1, 2, 1), crew_counts, FOUR, "ssqpppqrssrs")
        self.check_returns("bab", core_of, AB, "baaaaab")
        self.check_returns((2, 0), crew_counts, AB, "baaaaab")

    def test_no_crews(self):
        for roster, line in ((AB, "abababababab"), (A2B2, "baba"), (FOUR, "sssspsssspss")):
            self.check_returns(line, core_of, roster, line)
            self.check_returns((0,) * len(roster), crew_counts, roster, line)

    def test_all_readings_of_small_lines_leave_the_same(self):
        for roster, line in small_lines():
            with self.subTest(roster=roster, line=line):
                core, crews = core_of(roster, line), crew_counts(roster, line)
                self.assertEqual(core, core_by_hand(roster, line))
                found = readings_by_hand(roster, line)
                complete = [(left, reading) for left, (reading, done) in found.items() if done]
                for left, reading in complete:
                    self.assertEqual("".join(line[place] for place in sorted(left)), core)
                    counted = tuple(deletions_of(reading, line, badge) for badge, _ in roster)
                    self.check_same(counted, crews)

    def test_a_step_changes_neither_the_core_nor_the_crews(self):
        for roster, line in small_lines():
            for after in steps_by_hand(roster, line).values():
                self.assertEqual(core_of(roster, after), core_of(roster, line))
                self.assertEqual(crew_counts(roster, after), crew_counts(roster, line))

    def test_lines_of_twelve_people(self):
        for roster, line in LONG:
            core, reading = core_by_hand(roster, line), reading_of(roster, line)
            self.check_returns(core, core_of, roster, line)
            expected = tuple(
                (line.count(badge) - core.count(badge)) // max(size, 1) for badge, size in roster
            )
            self.check_returns(expected, crew_counts, roster, line)
            self.check_same(tuple(deletions_of(reading, line, badge) for badge, _ in roster), expected)

    def test_the_errors(self):
        for function in OF_LINES:
            self.check_roster_first(function, "a")
            self.check_roster_first(function, None)
            self.check_line_next(function)
            self.check_raises(InvalidRoster, {"entry": 0}, function, line=7, roster=(7,))
            self.check_raises(InvalidPeople, {"place": 1}, function, line="ac", roster=AB)


if __name__ == "__main__":
    unittest.main()
