"""Points [22], [23]: texts, crewstep/texts.py."""

import itertools
import unittest

from crewstep.errors import InvalidRoster, InvalidWalk
from crewstep.texts import roster_text, walk_text, yard_text
from crewstep.yards import Yard
from tests.checks import A2B2, AB, NO_TUPLES, WRONG_STEPS
from tests.sessions import YardTest, yard_of


class RosterTextTest(YardTest):
    def check_text(self, text, roster):
        self.check_returns(text, roster_text, roster)
        self.check_returns(text, roster_text, roster=roster)

    def test_the_example(self):
        self.check_text("a2 b0", AB)

    def test_one_to_four_badges(self):
        self.check_text("z5", (("z", 5),))
        self.check_text("a0 b1 c2", (("a", 0), ("b", 1), ("c", 2)))
        self.check_text("c3 k4 m5 x0", (("c", 3), ("k", 4), ("m", 5), ("x", 0)))
        for badge, size in itertools.product("abcdefghijklmnopqrstuvwxyz", range(6)):
            self.check_text(badge + "012345"[size], ((badge, size),))

    def test_invalid_rosters(self):
        self.check_roster_first(roster_text)
        self.check_raises(InvalidRoster, {"entry": 0}, roster_text, roster=(7,))


class WalkTextTest(YardTest):
    def check_text(self, text, walk):
        self.check_returns(text, walk_text, walk)
        self.check_returns(text, walk_text, walk=walk)

    def check_wrong(self, index, walk):
        self.check_raises(InvalidWalk, {"index": index}, walk_text, walk)
        self.check_raises(InvalidWalk, {"index": index}, walk_text, walk=walk)

    def test_the_example(self):
        self.check_text("0> 11<", ((0, 1), (11, -1)))

    def test_no_step(self):
        self.check_text("-", ())

    def test_every_step(self):
        for place in range(12):
            self.check_text(str(place) + ">", ((place, 1),))
            self.check_text(str(place) + "<", ((place, -1),))
            self.check_text(str(place) + "< 3> 3>", ((place, -1), (3, 1), (3, 1)))

    def test_a_thousand_steps_and_more(self):
        self.check_text(" ".join(["10> 9<"] * 500), ((10, 1), (9, -1)) * 500)
        for many in (1001, 2000):
            self.check_wrong(None, ((0, 1),) * many)
            self.check_wrong(None, (None,) * many)

    def test_objects_that_are_no_walks(self):
        for thing in NO_TUPLES + ([(0, 1)], {(0, 1): 1}, "0>", "-"):
            self.check_wrong(None, thing)
        for item in WRONG_STEPS:
            with self.subTest(item=item):
                self.check_wrong(0, (item,))
                self.check_wrong(1, ((0, 1), item))
                self.check_wrong(2, ((0, 1), (11, -1), item, None))
                self.check_wrong(999, ((0, 1),) * 999 + (item,))


class YardTextTest(YardTest):
    def check_text(self, text, yard):
        self.check_same(yard_text(yard), text)
        self.check_same(yard_text(yard=yard), text)
        self.check_same(str(yard), text)

    def test_the_example(self):
        yard = Yard(AB)
        yard.together((("ring", "q", "ab"), ("line", "p", "")))
        self.check_text("a2 b0\nline p -\nring q ab", yard)

    def test_no_names(self):
        self.check_text("a2 b2", Yard(A2B2))
        self.check_text("c0 d1 e2 z5", Yard((("c", 0), ("d", 1), ("e", 2), ("z", 5))))

    def test_names_are_ascending(self):
        named = {"b": ("line", "a"), "zz": ("ring", "b"), "aa": ("line", ""), "z": ("ring", "ab"), "a": ("line", "bb")}
        text = "a2 b0\nline a bb\nline aa -\nline b a\nring z ab\nring zz b"
        self.check_text(text, yard_of(AB, named))
        self.check_text(text, yard_of(AB, dict(sorted(named.items()))))

    def test_eight_names_and_twelve_people(self):
        named = {"abcdefg" + letter: ("line", "ab" * 6) for letter in "hgfedcba"}
        rows = ["line abcdefg" + letter + " abababababab" for letter in "abcdefgh"]
        self.check_text("\n".join(["a2 b0"] + rows), yard_of(AB, named))

    def test_a_session_that_changes(self):
        yard = yard_of(AB, {"p": ("line", "aab"), "line": ("line", "")})
        self.check_text("a2 b0\nline line -\nline p aab", yard)
        yard.apply(("close", "p"))
        self.check_text("a2 b0\nline line -\nring p aab", yard)
        yard.apply(("drop", "line"))
        self.check_text("a2 b0\nring p aab", yard)
        yard.undo()
        yard.undo()
        self.check_text("a2 b0\nline line -\nline p aab", yard)


if __name__ == "__main__":
    unittest.main()
