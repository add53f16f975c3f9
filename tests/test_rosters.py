"""Point [5]: rosters, crewstep/rosters.py."""

import unittest
from itertools import product

from crewstep.errors import InvalidBadge, InvalidRoster
from crewstep import rosters
from crewstep.rosters import badges_of, check_roster, is_roster, size_of
from tests.checks import THINGS, WRONG_ROSTERS, CrewTest

RIGHT = (
    (("a", 0),),
    (("z", 5),),
    (("a", 0), ("b", 5)),
    (("c", 0), ("k", 5)),
    (("a", 1), ("b", 1), ("c", 1)),
    (("a", 2), ("b", 3), ("c", 4), ("d", 5)),
    (("d", 0), ("m", 1), ("y", 0), ("z", 2)),
)

# What is wrong at whatever index of a roster it stands.
WRONG_ENTRIES = (
    None, True, 2, "a2", "ab", "", [], {}, (), ["q", 2], {"q": 2},
    ("q",), ("q", 2, 2), ("q", 2, None), (2, "q"), (("q", 2),),
    ("Q", 2), ("qr", 2), ("", 2), ("1", 2), (" ", 2), ("`", 2), ("{", 2), ("\n", 2),
    (None, 2), (True, 2), (7, 2), (["q"], 2), (("q",), 2), ({"q": 1}, 2),
    ("q", -1), ("q", 6), ("q", 10 ** 29), ("q", -(10 ** 29)), ("q", True), ("q", False),
    ("q", None), ("q", "2"), ("q", (2,)), ("q", [2]), ("q", {2: 2}),
)


class CheckRosterTest(CrewTest):
    def check_entry(self, entry, roster):
        self.check_raises(InvalidRoster, {"entry": entry}, check_roster, roster)
        self.check_raises(InvalidRoster, {"entry": entry}, check_roster, roster=roster)
        self.check_returns(False, is_roster, roster)

    def check_right(self, roster):
        self.check_returns(None, check_roster, roster)
        self.check_returns(None, check_roster, roster=roster)
        self.check_returns(True, is_roster, roster)
        self.check_returns(True, is_roster, thing=roster)

    def test_the_limits(self):
        self.check_same([rosters.MAX_BADGES, rosters.MAX_SIZE], [4, 5])

    def test_the_examples(self):
        self.check_entry(1, (("b", 2), ("a", 3)))
        self.check_right((("a", 0), ("b", 5)))

    def test_rosters(self):
        for roster in RIGHT:
            with self.subTest(roster=roster):
                self.check_right(roster)

    def test_every_letter_and_every_size(self):
        for badge, size in product("abcdefghijklmnopqrstuvwxyz", range(6)):
            self.check_right(((badge, size),))

    def test_every_character_that_is_no_letter_from_a_to_z(self):
        for code in list(range(32, 97)) + list(range(123, 127)):
            self.check_entry(0, ((chr(code), 2),))

    def test_no_badge_and_five_badges(self):
        self.check_entry(None, ())
        self.check_entry(None, tuple((badge, 1) for badge in "abcde"))
        self.check_entry(None, tuple((badge, 1) for badge in "abcdefghijklmnopqrstuvwxyz"))

    def test_too_many_items_come_before_a_wrong_item(self):
        self.check_entry(None, (None,) * 5)
        self.check_entry(None, (("b", 9), ("a", 1), ("c", 1), ("d", 1), ("e", 1)))

    def test_objects_that_are_no_tuples(self):
        for thing in (None, True, False, 0, 1, "a", "a2", {}, {"a": 2}, {"a": 2, "b": 0}, []):
            with self.subTest(thing=thing):
                self.check_entry(None, thing)
        for roster in RIGHT:
            self.check_entry(None, list(roster))
            self.check_entry(None, dict(roster))

    def test_no_other_thing_is_a_roster(self):
        right = (("a", 2),)
        for thing in THINGS:
            with self.subTest(thing=thing):
                self.check_returns(thing == right, is_roster, thing)
        for thing, entry in WRONG_ROSTERS:
            with self.subTest(thing=thing):
                self.check_entry(entry, thing)

    def test_sizes_below_and_above(self):
        for size in (-1, 6, 7, -(10 ** 29), 10 ** 29):
            self.check_entry(0, (("a", size),))
            self.check_entry(1, (("a", 5), ("b", size)))

    def test_true_and_false_are_no_sizes(self):
        self.check_entry(0, (("a", True),))
        self.check_entry(0, (("a", False),))
        self.check_entry(1, (("a", 1), ("b", True), ("c", False)))

    def test_wrong_entries_at_each_index(self):
        right = (("a", 1), ("b", 0), ("r", 5), ("s", 2))
        for wrong, index, many in product(WRONG_ENTRIES, range(4), range(1, 5)):
            if index < many:
                with self.subTest(wrong=wrong, index=index, many=many):
                    self.check_entry(index, right[:index] + (wrong,) + right[index + 1:many])

    def test_lists_instead_of_pairs(self):
        self.check_entry(0, (["a", 2], ("b", 2)))
        self.check_entry(1, (("a", 2), ["b", 2]))

    def test_badges_out_of_order_and_twice(self):
        self.check_entry(1, (("a", 2), ("a", 2)))
        self.check_entry(1, (("a", 2), ("a", 3)))
        self.check_entry(2, (("a", 2), ("c", 2), ("b", 2)))
        self.check_entry(2, (("a", 2), ("b", 2), ("a", 2)))
        self.check_entry(3, (("a", 1), ("b", 1), ("c", 1), ("c", 1)))
        self.check_entry(1, (("z", 1), ("y", 1), ("x", 1), ("w", 1)))

    def test_only_the_first_of_several_wrong_items_is_told(self):
        self.check_entry(0, (("A", 1), ("b", 9), None))
        self.check_entry(1, (("b", 1), ("a", 1), ("c", 9)))
        self.check_entry(1, (("b", 1), ("c", -1), ("a", 1)))
        self.check_entry(2, (("a", 1), ("b", 1), ["c", 1], ("a", 1)))

    def test_the_order_of_every_three_badges(self):
        for badges in product("abc", repeat=3):
            roster = tuple((badge, 2) for badge in badges)
            wrong = [k for k in (1, 2) if badges[k] <= badges[k - 1]]
            if wrong:
                self.check_entry(wrong[0], roster)
            else:
                self.check_right(roster)


class BadgesOfTest(CrewTest):
    def test_the_example(self):
        self.check_returns("ck", badges_of, (("c", 0), ("k", 5)))

    def test_the_order_of_the_roster(self):
        self.check_returns("a", badges_of, (("a", 0),))
        self.check_returns("dmyz", badges_of, roster=(("d", 0), ("m", 1), ("y", 0), ("z", 2)))

    def test_an_invalid_roster(self):
        self.check_roster_first(badges_of)
        self.check_raises(InvalidRoster, {"entry": 0}, badges_of, roster=(("a", 6),))


class SizeOfTest(CrewTest):
    roster = (("c", 0), ("k", 5), ("m", 1), ("z", 3))

    def test_the_example(self):
        self.check_returns(5, size_of, (("c", 0), ("k", 5)), "k")

    def test_each_badge_of_the_roster(self):
        for badge, size in self.roster:
            self.check_returns(size, size_of, self.roster, badge)
            self.check_returns(size, size_of, badge=badge, roster=self.roster)

    def test_badges_outside_of_the_roster(self):
        for badge in "abdejlnyACKZ":
            self.check_raises(InvalidBadge, {"badge": badge}, size_of, self.roster, badge)

    def test_strings_that_are_no_badges(self):
        for badge in ("", "ck", "ckmz", "kk", "c ", " c", "K", "5", "\n", "c" * 5000):
            self.check_raises(InvalidBadge, {"badge": badge}, size_of, self.roster, badge)

    def test_objects_of_other_kinds(self):
        for badge in THINGS:
            with self.subTest(badge=badge):
                self.check_raises(InvalidBadge, {"badge": badge}, size_of, self.roster, badge)
        for badge in (0, 1, 5, ("k",), ["k"], {"k": 5}, ("k", 5), ("c", 0)):
            self.check_raises(InvalidBadge, {"badge": badge}, size_of, self.roster, badge=badge)

    def test_the_roster_is_checked_first(self):
        for badge in ("a", "b", "k", "", None, 3, ["a"], {}):
            self.check_roster_first(size_of, badge)
        self.check_raises(InvalidRoster, {"entry": 1}, size_of, badge=[], roster=(("a", 1), 2))


if __name__ == "__main__":
    unittest.main()
