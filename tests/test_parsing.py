"""Points [22], [23]: parsers, crewstep/parsing.py."""

import itertools
import re
import unittest

from crewstep.errors import InvalidText
from crewstep.parsing import parse_roster, parse_walk, parse_yard
from crewstep.rosters import check_roster
from crewstep.steps import check_walk
from crewstep.texts import roster_text, walk_text, yard_text
from crewstep.yards import Yard
from tests.checks import A2B2, AB, THINGS
from tests.sessions import FULL, NAMES, NO_NAMES, SOME, YardTest, yard_of

NO_STRINGS = tuple(thing for thing in THINGS if not isinstance(thing, str)) + (
    ("a2",), ["a2"], {"a2": 0}, ("0>",), (("a", 2),), ((0, 1),), (), 2,
)

ROSTERS = (
    AB, A2B2, (("z", 5),), (("a", 0), ("b", 1), ("c", 2)), (("c", 3), ("k", 4), ("m", 5), ("x", 0)),
)
WALKS = (
    (), ((0, 1),), ((11, -1),), ((0, 1), (11, -1)), ((9, 1), (10, -1), (3, -1), (1, 1)), ((10, -1),) * 2,
)

STEP = "([0-9]|10|11)[<>]"


def is_roster_text(text):
    badges = re.findall("[a-z]", text)
    one_after_the_other = all(first < second for first, second in zip(badges, badges[1:]))
    return re.fullmatch("[a-z][0-5]( [a-z][0-5]){0,3}", text) is not None and one_after_the_other


def is_walk_text(text):
    return text == "-" or re.fullmatch(f"{STEP}( {STEP}){{0,999}}", text) is not None


def wrong_line(text):
    """Point [23] and the interface: the first line that cannot stand there, or None."""
    first, *rows = text.split("\n")
    if not is_roster_text(first):
        return 0
    letters = "".join(re.findall("[a-z]", first))
    last = ""
    for index, row in enumerate(rows, start=1):
        pattern = f"(line|ring) ([a-z]{{1,8}}) ([{letters}]{{1,12}}|-)"
        found = re.fullmatch(pattern, row)
        if not found or index > 8 or found[2] <= last or found[1] == "ring" and found[3] == "-":
            return index
        last = found[2]
    return None


def neighbours(text, characters):
    """All texts with one character more, less or other."""
    for place in range(len(text) + 1):
        yield text[:place] + text[place + 1:]
        for character in characters:
            yield text[:place] + character + text[place:]
            yield text[:place] + character + text[place + 1:]


class ParseTest(YardTest):
    def check_wrong(self, line, function, text):
        self.check_raises(InvalidText, {"line": line}, function, text)
        self.check_raises(InvalidText, {"line": line}, function, text=text)

    def check_strings_only(self, function):
        for thing in NO_STRINGS:
            with self.subTest(thing=thing):
                self.check_wrong(0, function, thing)


class ParseRosterTest(ParseTest):
    def check_text(self, text):
        """The text is parsed if it is one, by the grammar, and refused otherwise."""
        if not is_roster_text(text):
            self.check_wrong(0, parse_roster, text)
            return
        roster = parse_roster(text)
        self.check_returns(roster, parse_roster, text=text)
        check_roster(roster)
        self.check_same(roster_text(roster), text)

    def test_the_example(self):
        self.check_wrong(0, parse_roster, "b1 a2")

    def test_there_and_back(self):
        for roster in ROSTERS:
            self.check_returns(roster, parse_roster, roster_text(roster))
            self.check_returns(roster, parse_roster, text=roster_text(roster))
        for badge, size in itertools.product("abcdefghijklmnopqrstuvwxyz", range(6)):
            self.check_returns(((badge, size),), parse_roster, badge + str(size))

    def test_one_character_more_less_or_other(self):
        for roster in ROSTERS:
            for text in neighbours(roster_text(roster), "abckxyzAZ0156789 \n->,"):
                self.check_text(text)

    def test_four_and_five_badges(self):
        self.check_text("a1 b1 c1 d1")
        self.check_wrong(0, parse_roster, "a1 b1 c1 d1 e1")
        self.check_wrong(0, parse_roster, " ".join(letter + "1" for letter in "abcdefghijklmnopqrstuvwxyz"))

    def test_sizes(self):
        for size in ("5", "0"):
            self.check_returns((("a", int(size)),), parse_roster, "a" + size)
        for size in ("6", "9", "00", "05", "10", "-1", "+1", "1.", "", " 1", "1 ", "a", "5" * 4999):
            self.check_wrong(0, parse_roster, "a" + size)
            self.check_wrong(0, parse_roster, "a1 b" + size)

    def test_badges_out_of_order_and_twice(self):
        for text in ("b1 a2", "a1 a1", "a1 a2", "a1 c1 b1", "a1 b1 a1", "b1 c1 d1 a1"):
            self.check_wrong(0, parse_roster, text)

    def test_other_strings(self):
        for text in (
            "", " ", "\n", "-", "a", "2", "2a", "a2\n", "\na2", "a2\nb0", "a2,b0", "a2b0", "a2  b0", "a 2", "A2",
            "ab2", "(('a', 2),)", "a2 b0\nline p aab", "a" * 5000, " " * 5000, "a2 " * 1666,
        ):
            self.check_wrong(0, parse_roster, text)

    def test_objects_that_are_no_strings(self):
        self.check_strings_only(parse_roster)


class ParseWalkTest(ParseTest):
    def check_text(self, text):
        if not is_walk_text(text):
            self.check_wrong(0, parse_walk, text)
            return
        walk = parse_walk(text)
        self.check_returns(walk, parse_walk, text=text)
        check_walk(walk)
        self.check_same(walk_text(walk), text)

    def test_the_example(self):
        self.check_returns((), parse_walk, "-")

    def test_there_and_back(self):
        for walk in WALKS:
            self.check_returns(walk, parse_walk, walk_text(walk))
            self.check_returns(walk, parse_walk, text=walk_text(walk))
        for place, side in itertools.product(range(12), (1, -1)):
            self.check_returns(((place, side),), parse_walk, walk_text(((place, side),)))

    def test_one_character_more_less_or_other(self):
        for walk in WALKS:
            for text in neighbours(walk_text(walk), "0129<> -\na+."):
                self.check_text(text)

    def test_places(self):
        for place in range(30):
            for mark in "<>":
                self.check_text(str(place) + mark)
                self.check_text("0> " + str(place) + mark)
                self.check_text("0" + str(place) + mark)
        for place in ("-1", "+1", "-0", "011", "12", "100", "9" * 4000, "", " 1", "1 ", "x", "1.", "_1", "1_1"):
            self.check_wrong(0, parse_walk, place + ">")

    def test_a_thousand_steps_and_more(self):
        for many in (999, 1000):
            self.check_returns(((0, 1),) * many, parse_walk, " ".join(["0>"] * many))
            self.check_returns(((11, -1),) * many, parse_walk, " ".join(["11<"] * many))
        for many in (1001, 1250):
            self.check_wrong(0, parse_walk, " ".join(["0>"] * many))
        self.check_wrong(0, parse_walk, " ".join(["0>"] * 999 + ["-"]))

    def test_other_strings(self):
        for text in (
            "", " ", "\n", "--", "- ", " -", "- -", "0> -", "- 0>", "0", ">", "<", "0>0>", "0>  0>", " 0>", "0> ",
            "0>\n", "0>\n0>", "0> ,1<", "0><", "0=", "((0, 1),)", ">0", "0 >", "a" * 5000, " " * 5000,
        ):
            self.check_wrong(0, parse_walk, text)

    def test_objects_that_are_no_strings(self):
        self.check_strings_only(parse_walk)


class ParseYardTest(ParseTest):
    def check_text(self, text):
        line = wrong_line(text)
        if line is not None:
            self.check_wrong(line, parse_yard, text)
            return
        yard = parse_yard(text)
        self.assertIs(type(yard), Yard)
        self.check_same(yard_text(yard), text)
        self.check_same(yard.history(), ())
        self.check_same(str(parse_yard(text=text)), text)

    def check_line(self, line, text):
        self.check_wrong(line, parse_yard, text)
        self.assertEqual(wrong_line(text), line)

    def test_the_example(self):
        self.check_line(2, "a2 b0\nline p aab\nline p b")

    def test_there_and_back(self):
        for roster, named in (
            (AB, {}), (AB, SOME), (AB, FULL), (A2B2, FULL), ((("z", 5),), {"p": ("ring", "z" * 12)}),
        ):
            yard = yard_of(roster, named)
            found = parse_yard(str(yard))
            self.assertEqual(found, yard)
            self.check_named(found, named)
            self.check_same(found.roster(), roster)
            self.check_same(found.history(), ())
            self.check_text(str(yard))

    def test_the_session_has_no_history(self):
        yard = parse_yard("a2 b0\nline p aab")
        self.check_same(self.seen(yard), ["a2 b0\nline p aab", ()])
        yard.apply(("step", "p", 0, 1))
        self.check_same(yard.history(), ((("step", "p", 0, 1),),))
        yard.undo()
        self.check_same(str(yard), "a2 b0\nline p aab")

    def test_two_sessions_from_one_text(self):
        one, other = parse_yard("a2 b0\nline p aab"), parse_yard("a2 b0\nline p aab")
        one.apply(("drop", "p"))
        self.check_named(other, {"p": ("line", "aab")})

    def test_one_character_more_less_or_other(self):
        for text in ("a2 b0", "a2 b0\nline p -", "a2 b0\nline p aab\nring q b", "b3\nring a b\nring ab b"):
            for other in neighbours(text, "abclpqrz0126 -\n<>A"):
                self.check_text(other)

    def test_the_first_line(self):
        for first in ("", " ", "-", "a6", "b0 a2", "a2  b0", "a2 b0 ", " a2", "line p aab", "a1 b1 c1 d1 e1", "A2"):
            for rest in ("", "\n", "\nline p a", "\nline p xyz"):
                self.check_line(0, first + rest)

    def test_a_newline_at_the_end(self):
        self.check_line(1, "a2 b0\n")
        self.check_line(2, "a2 b0\nline p aab\n")
        self.check_line(1, "a2 b0\n\nline p aab")
        self.check_line(2, "a2 b0\nline p aab\n\n")
        self.check_line(0, "\na2 b0")

    def test_eight_and_nine_names(self):
        rows = ["line " + letter + " ab" for letter in "abcdefghi"]
        self.check_text("\n".join(["a2 b0"] + rows[:8]))
        self.check_line(9, "\n".join(["a2 b0"] + rows))
        self.check_line(9, "\n".join(["a2 b0"] + rows + ["x"]))
        self.check_line(9, "\n".join(["a2 b0"] + rows[:8] + [""]))

    def test_twelve_and_thirteen_people(self):
        for shape in ("line", "ring"):
            self.check_text("a2 b0\n" + shape + " p " + "ab" * 6)
            self.check_line(1, "a2 b0\n" + shape + " p " + "a" * 13)

    def test_names(self):
        for name in NAMES:
            self.check_text("a2 b0\nring " + name + " a")
        for name in NO_NAMES:
            self.check_line(1, "a2 b0\nring " + name + " a")
        self.check_text("a2 b0\nline abcdefgh -")
        self.check_line(1, "a2 b0\nline abcdefghi -")

    def test_the_order_of_names(self):
        for names in itertools.product(("a", "aa", "ab", "b", "z"), repeat=3):
            self.check_text("\n".join(["a2 b0"] + ["line " + name + " -" for name in names]))

    def test_people(self):
        for people in ("c", "aca", "A", "a-", "--", "", "ab ", " ab", "0", "a2", "ab ab"):
            self.check_line(1, "a2 b0\nline p " + people)
            self.check_line(1, "a2 b0\nring p " + people)
        self.check_line(1, "a2 b0\nring p -")
        self.check_text("a2 b0\nline p -")

    def test_shapes(self):
        for shape in ("lines", "Line", "walk", "", "-", "p", "rings", "row"):
            self.check_line(1, "a2 b0\n" + shape + " p aab")
            self.check_line(2, "a2 b0\nline a aab\n" + shape + " p aab")

    def test_the_first_of_several_wrong_lines(self):
        self.check_line(1, "a2 b0\nline p c\nline p c\n")
        self.check_line(2, "a2 b0\nline p a\nline q c\nline p a")
        self.check_line(3, "a2 b0\nline p a\nline q b\nline p a\nring q -")

    def test_objects_that_are_no_strings(self):
        self.check_strings_only(parse_yard)


if __name__ == "__main__":
    unittest.main()
