"""Point [6]: lines and rings, crewstep/people.py."""

import unittest
from itertools import product

from crewstep.errors import InvalidPeople, InvalidRoster
from crewstep import people
from crewstep.people import check_line, check_ring, counts_of, is_line, is_ring, turned
from tests.checks import THINGS, CrewTest

ROSTER = (("a", 2), ("b", 0))
WIDE = (("a", 2), ("b", 0), ("c", 1))
HIGH = (("c", 3), ("k", 0), ("m", 1), ("z", 5))

# Objects that are neither lines nor rings of any roster: not strings.
OTHERS = tuple(thing for thing in THINGS if not isinstance(thing, str))

# The functions that take a line, those that take a ring, each with what else it takes.
OF_LINES = ((check_line, ()), (counts_of, ()))
OF_RINGS = ((check_ring, ()), (turned, (1,)))


class PeopleTest(CrewTest):
    def check_wrong_line(self, place, roster, line):
        for function, more in OF_LINES + OF_RINGS:
            self.check_raises(InvalidPeople, {"place": place}, function, roster, line, *more)
        self.check_returns(False, is_line, roster, line)
        self.check_returns(False, is_ring, roster, line)

    def check_right_line(self, roster, line):
        self.check_returns(None, check_line, roster, line)
        self.check_returns(None, check_line, line=line, roster=roster)
        self.check_returns(True, is_line, roster, line)
        self.check_returns(True, is_line, thing=line, roster=roster)

    def check_right_ring(self, roster, ring):
        self.check_right_line(roster, ring)
        self.check_returns(None, check_ring, roster, ring)
        self.check_returns(None, check_ring, ring=ring, roster=roster)
        self.check_returns(True, is_ring, roster, ring)
        self.check_returns(True, is_ring, thing=ring, roster=roster)


class CheckPeopleTest(PeopleTest):
    def test_the_limit(self):
        self.check_same(people.MAX_PEOPLE, 12)

    def test_the_examples(self):
        self.check_wrong_line(2, ROSTER, "abca")
        self.check_raises(InvalidPeople, {"place": None}, check_ring, ROSTER, "")
        self.check_returns(True, is_line, ROSTER, "")
        self.check_returns(False, is_ring, ROSTER, ["a"])

    def test_nobody_is_a_line_but_no_ring(self):
        for roster in (ROSTER, WIDE, HIGH):
            self.check_right_line(roster, "")
            self.check_raises(InvalidPeople, {"place": None}, check_ring, roster, "")
            self.check_raises(InvalidPeople, {"place": None}, check_ring, ring="", roster=roster)
            self.check_raises(InvalidPeople, {"place": None}, turned, roster, "", 0)
            self.check_returns(False, is_ring, roster, "")

    def test_one_person(self):
        for badge in "ckmz":
            self.check_right_ring(HIGH, badge)

    def test_up_to_twelve_people(self):
        for many in range(1, 13):
            self.check_right_ring(ROSTER, "b" * many)
            self.check_right_ring(HIGH, "zmkczmkczmkc"[:many])

    def test_more_than_twelve_people(self):
        for many in (13, 14, 24, 5000):
            self.check_wrong_line(None, ROSTER, "a" * many)
            self.check_wrong_line(None, HIGH, ("zmkc" * many)[:many])

    def test_too_many_people_come_before_a_wrong_character(self):
        self.check_wrong_line(None, ROSTER, "c" + "a" * 12)
        self.check_wrong_line(None, ROSTER, "c" * 13)
        self.check_wrong_line(11, ROSTER, "a" * 11 + "c")

    def test_all_short_lines(self):
        for many in range(1, 5):
            for line in product("abd", repeat=many):
                line = "".join(line)
                if "d" in line:
                    self.check_wrong_line(line.index("d"), WIDE, line)
                else:
                    self.check_right_ring(WIDE, line)

    def test_a_wrong_character_at_each_place(self):
        for wrong, place in product("dzAB0 ~\n-", range(12)):
            self.check_wrong_line(place, WIDE, "a" * place + wrong + "c" * (11 - place))

    def test_only_the_first_of_several_wrong_characters_is_told(self):
        self.check_wrong_line(0, ROSTER, "cab")
        self.check_wrong_line(1, ROSTER, "aceca")
        self.check_wrong_line(0, ROSTER, "c" * 12)
        self.check_wrong_line(2, HIGH, "kzabzk")

    def test_badges_of_another_roster(self):
        self.check_right_ring(WIDE, "abc")
        self.check_wrong_line(2, ROSTER, "abc")
        self.check_wrong_line(0, HIGH, "abc")

    def test_a_badge_of_size_zero_is_a_badge(self):
        self.check_right_ring((("b", 0),), "bbb")

    def test_objects_that_are_no_strings(self):
        for thing in OTHERS + (["a", "b"], ("a", "b"), {"a": 1}, [], (), {}, ["c"], ("a",)):
            with self.subTest(thing=thing):
                self.check_wrong_line(None, ROSTER, thing)


class RosterFirstTest(CrewTest):
    def test_an_invalid_roster_comes_first(self):
        for thing in ("ab", "", "dd", "a" * 13, None, 7, ["a"], {"a": 1}):
            for function, more in OF_LINES + OF_RINGS + ((is_line, ()), (is_ring, ())):
                self.check_roster_first(function, thing, *more)

    def test_an_invalid_roster_given_by_name(self):
        for function in (check_line, counts_of):
            self.check_raises(InvalidRoster, {"entry": 0}, function, line=None, roster=(None,))
        self.check_raises(InvalidRoster, {"entry": 0}, check_ring, ring="", roster=(None,))
        self.check_raises(InvalidRoster, {"entry": 0}, turned, by=1, ring="", roster=(None,))
        for function in (is_line, is_ring):
            self.check_raises(InvalidRoster, {"entry": 0}, function, thing=[], roster=(None,))


class CountsOfTest(CrewTest):
    def test_the_example(self):
        self.check_returns((3, 1, 0), counts_of, WIDE, "abaa")

    def test_badges_that_nobody_wears(self):
        self.check_returns((0, 0, 0), counts_of, WIDE, "")
        self.check_returns((0, 2, 0), counts_of, WIDE, "bb")
        self.check_returns((0, 0, 0, 1), counts_of, HIGH, "z")
        self.check_returns((0,), counts_of, (("q", 0),), "")

    def test_the_order_of_the_roster(self):
        self.check_returns((1, 2, 3, 4), counts_of, HIGH, "zzzzmmmkkc")
        self.check_returns((1, 2, 3, 4), counts_of, line="zmkzmkzmcz", roster=HIGH)
        self.check_returns((12, 0), counts_of, ROSTER, "a" * 12)

    def test_all_short_lines(self):
        for many in range(5):
            for line in product("abc", repeat=many):
                expected = tuple(len([x for x in line if x == badge]) for badge in "abc")
                self.check_returns(expected, counts_of, WIDE, "".join(line))

    def test_the_errors(self):
        self.check_raises(InvalidPeople, {"place": 1}, counts_of, ROSTER, "aca")
        self.check_raises(InvalidPeople, {"place": None}, counts_of, ROSTER, "a" * 13)
        self.check_raises(InvalidPeople, {"place": None}, counts_of, line=["a"], roster=ROSTER)


class TurnedTest(CrewTest):
    def test_the_example(self):
        self.check_returns("cab", turned, WIDE, "abc", 1)

    def test_by_nothing_and_by_the_number_of_places(self):
        for ring in ("a", "abc", "abcabaacbbca"):
            for rounds in (0, 1, -1, 2, 10 ** 28, -(10 ** 28)):
                self.check_returns(ring, turned, WIDE, ring, rounds * len(ring))

    def test_by_negative_integers(self):
        self.check_returns("bca", turned, WIDE, "abc", -1)
        self.check_returns("cab", turned, WIDE, "abc", -2)
        self.check_returns("caab", turned, by=-3, ring="aabc", roster=WIDE)

    def test_by_integers_far_beyond_the_number_of_places(self):
        self.check_returns("cab", turned, WIDE, "abc", 3 * 10 ** 28 + 1)
        self.check_returns("bca", turned, WIDE, "abc", -3 * 10 ** 28 - 1)
        self.check_returns("bca", turned, WIDE, "abc", 29)

    def test_each_person_stands_that_many_places_further_around(self):
        for ring in ("a", "ab", "aab", "abcb", "abcabaacbbca", "aaaaaaaaaaab"):
            for by in range(-30, 31):
                places = {(place + by) % len(ring): person for place, person in enumerate(ring)}
                expected = "".join(places[place] for place in range(len(ring)))
                self.check_returns(expected, turned, WIDE, ring, by)

    def test_the_errors(self):
        for by in (0, 1, -1, 10 ** 29):
            self.check_raises(InvalidPeople, {"place": None}, turned, WIDE, "", by)
            self.check_raises(InvalidPeople, {"place": 2}, turned, WIDE, "abd", by)
            self.check_raises(InvalidPeople, {"place": None}, turned, WIDE, "a" * 13, by)
            self.check_raises(InvalidPeople, {"place": None}, turned, WIDE, ("a",), by)


if __name__ == "__main__":
    unittest.main()
