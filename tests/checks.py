"""What several test files need: a test case for errors, and objects of other kinds."""

import copy
import unittest

from crewstep.errors import InvalidRoster

# Objects of every kind that a caller may pass.
THINGS = (
    None, True, False, 0, 1, 2, -1, 10 ** 29, -(10 ** 29),
    "", " ", "\n", "a", "ab", "A", "0", "~", "a" * 5000,
    (), [], {}, (None,), ["a"], {"a": 2}, ("a", 2), ["a", 2], (("a", 2),), [("a", 2)],
    (["a", 2],), ((("a", 2),),), {"a": ["b", {"c": (1, None)}]}, tuple(range(2000)),
)

# What check_roster answers: None, or the entry of InvalidRoster.
WRONG_ROSTERS = (
    (None, None),
    ((), None),
    ([("a", 2)], None),
    ("a2", None),
    ({"a": 2}, None),
    ((("a", 1), ("b", 1), ("c", 1), ("d", 1), ("e", 1)), None),
    ((("b", 2), ("a", 3)), 1),
    ((("a", 2), ("b", True)), 1),
)


class CrewTest(unittest.TestCase):
    def check_raises(self, kind, fields, function, *arguments, **named):
        """The call raises exactly this error with these fields, twice, and changes no argument."""
        before = copy.deepcopy((arguments, named))
        for _ in range(2):
            with self.assertRaises(kind) as caught:
                function(*arguments, **named)
            self.assertIs(type(caught.exception), kind)
            self.check_same(vars(caught.exception), fields)
        self.check_same((arguments, named), before)

    def check_returns(self, result, function, *arguments, **named):
        """The call returns exactly this result, twice, and changes no argument."""
        before = copy.deepcopy((arguments, named))
        for _ in range(2):
            self.check_same(function(*arguments, **named), result)
        self.check_same((arguments, named), before)

    def check_same(self, found, expected):
        # 1 == True in Python, so the written forms are compared, too.
        self.assertEqual(found, expected)
        self.assertEqual(repr(found), repr(expected))

    def check_roster_first(self, function, *others):
        """The function raises InvalidRoster, whatever the other arguments are."""
        for roster, entry in WRONG_ROSTERS:
            with self.subTest(roster=roster):
                self.check_raises(InvalidRoster, {"entry": entry}, function, roster, *others)
