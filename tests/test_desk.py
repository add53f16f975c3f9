"""Point [24]: the desk, crewstep/desk.py."""

import itertools
import re
import unittest

from crewstep.desk import Desk
from crewstep.errors import (
    EmptyRing, Full, InvalidBadge, InvalidName, InvalidPeople, InvalidPlace, InvalidText, NameTaken, NoName,
    NotPossible, NotReachable, WrongShape,
)
from crewstep.ranks import rank_of
from crewstep.ringseries import ring_class_size
from crewstep.ringways import ring_why_not
from crewstep.series import class_size
from crewstep.ways import why_not
from tests.checks import A2B2, AB, THINGS, form_by_hand, ring_form_by_hand, turn_by_hand
from tests.sessions import (
    FULL, ROWS, SOME, FirstError, YardTest, after_by_hand, due, is_in_use, people_due, possible_steps, text_by_hand,
)

WORDS_OF_ERRORS = {
    NoName: "no name", InvalidName: "bad name", NameTaken: "name taken", InvalidPeople: "bad people",
    InvalidPlace: "bad place", InvalidBadge: "bad badge", NotPossible: "not possible",
    NotReachable: "not reachable", WrongShape: "wrong shape", EmptyRing: "empty ring", Full: "full",
}

# Each command, with the pattern of its other words.
WORD = "[^ \n]+"
PLACE = "0|[1-9][0-9]?"
MOVE = "(?:[0-9]|10|11)[<>]"
PATTERNS = {
    "line": (WORD, WORD), "ring": (WORD, WORD), "drop": (WORD,), "step": (WORD, MOVE), "walk": (WORD, WORD),
    "enter": (WORD, PLACE, WORD), "leave": (WORD, PLACE), "close": (WORD,), "cut": (WORD, PLACE),
    "join": (WORD, WORD), "part": (WORD, PLACE, WORD), "undo": (), "redo": (), "form": (WORD,), "size": (WORD,),
    "steps": (WORD,), "rank": (WORD,), "turn": (WORD,), "why": (WORD, WORD), "alike": (WORD, WORD), "show": (),
}

# Commands that change or answer something on the session with the names of SOME.
COMMANDS = (
    "line x aab", "ring x -", "drop p", "step p 0>", "step g 10>", "walk p baa", "enter p 3 b", "enter p 10 b",
    "leave q 0", "leave f 11", "close p", "cut q 3", "join p e", "part p 1 x", "undo", "redo", "form q", "size p",
    "steps g", "rank p", "turn q", "why p baa", "alike p p", "show",
)


def words_of(command):
    """The words of a command by their patterns, or None for a bad command."""
    for word, patterns in PATTERNS.items():
        found = re.fullmatch(" ".join([word] + ["(" + pattern + ")" for pattern in patterns]), command)
        if found:
            return (word,) + found.groups()
    return None


def edit_of(word, name, *others):
    """The edit that the words of a command stand for."""
    if word == "step":
        return (word, name, int(others[0][:-1]), 1 if others[0][-1] == ">" else -1)
    if word in ("line", "ring", "walk"):
        return (word, name, "" if others[0] == "-" else others[0])
    if word in ("enter", "leave", "cut", "part"):
        return (word, name, int(others[0]), *others[1:])
    return (word, name, *others)


def text_of_form(form):
    counts, core, *residue = form
    return " ".join([",".join(map(str, counts)), core or "-"] + [str(one) for one in residue])


def text_of_steps(steps):
    return " ".join(str(place) + "<>"[side == 1] for place, side in steps) or "none"


def question_by_hand(roster, named, word, name, *others):
    """The answer to a question about a name."""
    due(not is_in_use(named, name), NoName, name)
    shape, people = named[name]
    ring = shape == "ring"
    form = ring_form_by_hand(roster, people) if ring else form_by_hand(roster, people)
    if word == "form":
        return text_of_form(form)
    if word == "size":
        return str((ring_class_size if ring else class_size)(roster, form))
    if word == "steps":
        return text_of_steps(possible_steps(roster, shape, people))
    if word in ("rank", "turn"):
        due(ring == (word == "rank"), WrongShape, name)
        return str(turn_by_hand(roster, form) if ring else rank_of(roster, people))
    if word == "alike":
        due(not is_in_use(named, others[0]), NoName, others[0])
        other_shape, goal = named[others[0]]
        return "yes" if shape == other_shape and not reason_of(roster, shape, people, goal) else "no"
    goal = "" if others[0] == "-" else others[0]
    people_due(roster, shape, goal)
    reason = reason_of(roster, shape, people, goal)
    return " ".join(str(item) for item in reason) if reason else "reachable"


def reason_of(roster, shape, start, goal):
    return (ring_why_not if shape == "ring" else why_not)(roster, start, goal)


def said_by_hand(roster, named, command):
    """The answer to a command on a session without history, and the names after it."""
    words = words_of(command) if isinstance(command, str) else None
    if words is None:
        return "bad command", named
    if words == ("show",):
        return text_by_hand(roster, named), named
    if words in (("undo",), ("redo",)):
        return "nothing", named
    try:
        if words[0] in ROWS or words[0] in ("line", "ring"):
            return "done", after_by_hand(roster, named, edit_of(*words))
        return question_by_hand(roster, named, *words), named
    except FirstError as error:
        return WORDS_OF_ERRORS[error.kind], named


class DeskTest(YardTest):
    def check_said(self, answer, desk, command):
        self.check_same(desk.say(command), answer)

    def check_refused_by(self, answer, desk, command):
        """The desk answers so, twice, and the session does not change."""
        before = desk.say("show")
        for _ in range(2):
            self.check_said(answer, desk, command)
            self.check_same(desk.say(command=command), answer)
        self.check_said(before, desk, "show")

    def check_by_hand(self, roster, named, command):
        answer, after = said_by_hand(roster, named, command)
        desk = Desk(text_by_hand(roster, named))
        with self.subTest(command=command):
            self.check_said(answer, desk, command)
            self.check_said(text_by_hand(roster, after), desk, "show")
            self.check_said("done" if answer == "done" else "nothing", desk, "undo")
            self.check_said(text_by_hand(roster, named), desk, "show")


class BeginTest(DeskTest):
    def test_the_examples(self):
        desk = Desk("a2 b0\nline p aab")
        self.check_said("0>", desk, "steps p")
        desk = Desk(text="a2 b2\nring q aaba")
        self.check_said("3,1 ab 1", desk, "form q")
        self.check_said("residue 2 1 0", desk, "why q aaab")

    def test_the_session_of_the_text(self):
        for text in ("a2 b0", "z5", "a2 b0\nline p -", text_by_hand(AB, FULL), text_by_hand(A2B2, SOME)):
            desk = Desk(text)
            self.check_said(text, desk, "show")
            self.check_said("nothing", desk, "undo")
            self.check_said("nothing", desk, "redo")

    def test_invalid_texts(self):
        for text, line in (
            ("", 0), ("a6", 0), ("a2 b0\n", 1), ("a2 b0\nring p -", 1), ("a2 b0\nline p aab\nline p b", 2),
            (text_by_hand(AB, FULL) + "\nline z -", 9),
        ):
            self.check_raises(InvalidText, {"line": line}, Desk, text)
            self.check_raises(InvalidText, {"line": line}, Desk, text=text)
        for thing in THINGS:
            self.check_raises(InvalidText, {"line": 0}, Desk, thing)

    def test_desks_do_not_share_their_sessions(self):
        one, other = Desk("a2 b0\nline p aab"), Desk("a2 b0\nline p aab")
        self.check_said("done", one, "drop p")
        self.check_said("a2 b0\nline p aab", other, "show")


class EditTest(DeskTest):
    def test_each_edit(self):
        desk = Desk("a2 b0")
        for command, text in (
            ("line p aab", "line p aab"),
            ("ring q ab", "line p aab\nring q ab"),
            ("step p 0>", "line p baa\nring q ab"),
            ("step p 1<", "line p aab\nring q ab"),
            ("walk p baa", "line p baa\nring q ab"),
            ("enter q 2 a", "line p baa\nring q aba"),
            ("step q 2<", "line p baa\nring q baa"),
            ("leave p 0", "line p aa\nring q baa"),
            ("cut q 1", "line p aa\nline q aab"),
            ("join q p", "line q aabaa"),
            ("part q 3 p", "line p aa\nline q aab"),
            ("close p", "ring p aa\nline q aab"),
            ("drop q", "ring p aa"),
            ("line e -", "line e -\nring p aa"),
            ("walk e -", "line e -\nring p aa"),
        ):
            self.check_said("done", desk, command)
            self.check_said("a2 b0\n" + text, desk, "show")

    def test_the_words_of_errors(self):
        some, full = Desk(text_by_hand(AB, SOME)), Desk(text_by_hand(AB, FULL))
        for answer, desk, *commands in (
            ("no name", some, "drop z", "step P 0>", "form -", "size abcdefghi", "rank z", "turn z", "why z c"),
            ("no name", some, "join z p", "join p z", "join q z", "alike z p", "alike p z", "alike p -", "cut - 0"),
            ("bad name", some, "line P a", "ring - a", "line abcdefghi c", "part p 0 P", "part p 3 -", "line p1 a"),
            ("bad name", full, "line P a", "part p 0 X"),
            ("name taken", some, "line p a", "ring p c", "ring e -", "part p 0 p", "part p 0 q", "join p p"),
            ("name taken", full, "line p a", "part p 0 h"),
            ("bad people", some, "line x c", "ring x -", "walk p c", "walk q -", "why p aac", "why q -", "why p A"),
            ("bad people", some, "line x aaaaaaaaaaaaa", "why p aaaaaaaaaaaaa", "walk p a-", "line x --"),
            ("bad people", full, "line x c", "ring x -"),
            ("bad place", some, "enter p 4 a", "enter p 99 c", "leave p 3", "leave e 0", "cut q 4", "part p 4 x"),
            ("bad place", some, "part p 4 p", "part p 99 P", "leave r 1", "leave f 12", "enter f 13 a"),
            ("bad badge", some, "enter p 0 c", "enter p 0 -", "enter p 0 aa", "enter f 0 A", "enter g 12 0"),
            ("not possible", some, "step p 0<", "step p 1>", "step p 11>", "step e 0>", "step r 0<", "step q 1>"),
            ("not reachable", some, "walk p aba", "walk p -", "walk q baba", "walk f b", "walk e a"),
            ("wrong shape", some, "close q", "cut p 0", "cut p 99", "join q p", "join p q", "join q q"),
            ("wrong shape", some, "part q 0 x", "part q 99 P", "rank q", "turn p", "turn e", "rank r"),
            ("empty ring", some, "leave r 0", "close e"),
            ("full", some, "enter f 0 a", "enter g 12 b", "join f p", "join p s", "join s f"),
            ("full", full, "line x a", "ring x b", "line x -", "part p 0 x"),
            ("nothing", some, "undo", "redo"),
            ("nothing", full, "undo", "redo"),
        ):
            for command in commands:
                with self.subTest(command=command):
                    self.check_refused_by(answer, desk, command)

    def test_undo_and_redo(self):
        desk = Desk("a2 b0\nline p aab")
        self.check_said("done", desk, "step p 0>")
        self.check_said("done", desk, "walk p baa")
        self.check_said("done", desk, "undo")
        self.check_said("a2 b0\nline p baa", desk, "show")
        self.check_said("done", desk, "undo")
        self.check_said("a2 b0\nline p aab", desk, "show")
        self.check_said("nothing", desk, "undo")
        for command, answer in (("step p 0<", "not possible"), ("drop", "bad command"), ("drop z", "no name")):
            self.check_said(answer, desk, command)
        self.check_said("done", desk, "redo")
        self.check_said("a2 b0\nline p baa", desk, "show")
        self.check_said("done", desk, "redo")
        self.check_said("nothing", desk, "redo")
        self.check_said("done", desk, "undo")
        self.check_said("done", desk, "leave p 0")
        self.check_said("nothing", desk, "redo")
        self.check_said("a2 b0\nline p aa", desk, "show")

    def test_questions_and_bad_commands_are_no_actions(self):
        desk = Desk("a2 b0\nline p aab")
        self.check_said("done", desk, "drop p")
        self.check_said("done", desk, "undo")
        for command in ("form p", "size p", "steps p", "rank p", "why p baa", "alike p p", "show", "turn p", "drop p "):
            desk.say(command)
        self.check_said("done", desk, "redo")
        self.check_said("a2 b0", desk, "show")


class QuestionTest(DeskTest):
    def test_lines(self):
        desk = Desk("a3 b1 c0\nline e -\nline p caaab\nline q bcaaa\nring r caaab")
        for command, answer in (
            ("form p", "3,1,1 c"), ("form e", "0,0,0 -"), ("size p", "10"), ("size e", "1"), ("steps p", "1< 1> 4<"),
            ("steps e", "none"), ("rank p", "6"), ("rank e", "0"), ("why p bcaaa", "reachable"),
            ("why p bcaa", "counts a"), ("why p -", "counts a"), ("why e -", "reachable"), ("why p cabaa", "reachable"),
            ("why p acaab", "core 0"), ("alike p q", "yes"), ("alike p e", "no"), ("alike p r", "no"),
        ):
            with self.subTest(command=command):
                self.check_refused_by(answer, desk, command)

    def test_rings(self):
        desk = Desk("a2 b2\nring p aaab\nring q aaba\nring r abba\nring s abaa")
        for command, answer in (
            ("form p", "3,1 ab 0"), ("form q", "3,1 ab 1"), ("form r", "2,2 - 0"), ("size p", "2"), ("size r", "4"),
            ("turn p", "2"), ("turn r", "1"), ("steps p", "0< 1>"), ("steps r", "1< 1> 3< 3>"),
            ("why p aaba", "residue 2 0 1"), ("why q aaab", "residue 2 1 0"), ("why p abaa", "reachable"),
            ("why r abab", "core 0"), ("why p aaa", "counts b"), ("alike p q", "no"), ("alike p s", "yes"),
        ):
            with self.subTest(command=command):
                self.check_refused_by(answer, desk, command)

    def test_sizes_of_more_than_three_digits_and_rosters_of_four_badges(self):
        desk = Desk("a1 b1 c1 d1\nline p abcdabcdabcd\nring q ddddccccbbba")
        self.check_said("369600", desk, "size p")
        self.check_said("138600", desk, "size q")
        self.check_said("3,3,3,3 -", desk, "form p")
        self.check_said("1,3,4,4 - 0", desk, "form q")


class CommandTest(DeskTest):
    def test_objects_that_are_no_strings(self):
        desk = Desk("a2 b0\nline p aab")
        for thing in THINGS + (("show",), ["show"], {"show": 1}, ("drop", "p"), ["drop", "p"]):
            with self.subTest(thing=thing):
                self.check_refused_by("bad command", desk, thing)

    def test_other_strings(self):
        desk = Desk("a2 b0\nline p aab")
        for command in (
            "", " ", "\n", "  ", "x", "Show", "SHOW", "shows", "sho", "show show", "show p", "undo p", "undo 1",
            "redo redo", "drop", "drop p q", "line p", "line", "line q a b", "step p", "step p 0", "step p 0 1",
            "step p 0 >", "enter p 0", "enter p a", "leave p", "close", "close p q", "cut p", "join p", "join",
            "part p 0", "part p q", "form", "form p p", "size", "steps", "rank", "turn", "why p", "why", "alike p",
            "alike", "walk p", "p", "done", "apply", "exit", "-", "a" * 5000, " " * 5000, "names", "history", "twin",
            "together", "people p", "line  p aab",
        ):
            with self.subTest(command=command):
                self.check_refused_by("bad command", desk, command)

    def test_spaces_and_newlines_at_any_place(self):
        for command in COMMANDS:
            for place in range(len(command) + 1):
                for white in (" ", "\n", "  ", "\n ", " \n"):
                    self.check_by_hand(AB, SOME, command[:place] + white + command[place:])
                    self.check_by_hand(AB, SOME, command[:place] + white + command[place + 1:])
                self.check_by_hand(AB, SOME, command[:place] + command[place + 1:])

    def test_every_character_at_any_place(self):
        for command in COMMANDS:
            for place in range(len(command) + 1):
                for character in "a-0<>Ap1":
                    self.check_by_hand(AB, SOME, command[:place] + character + command[place:])
                    self.check_by_hand(AB, SOME, command[:place] + character + command[place + 1:])

    def test_places(self):
        desk = Desk(text_by_hand(AB, SOME))
        for place in (
            "00", "01", "000", "100", "012", "-1", "-0", "+1", "1.", "1,", "x", "1x", "-", "1_1", "0x1", "9" * 4000,
        ):
            for command in ("enter p {} a", "leave p {}", "cut q {}", "part p {} x", "enter z {} c", "leave z {}"):
                self.check_refused_by("bad command", desk, command.format(place))
        for place in range(100):
            for command in ("enter p {} a", "leave f {}", "cut q {}", "part p {} x"):
                self.check_by_hand(AB, SOME, command.format(place))

    def test_moves(self):
        desk = Desk(text_by_hand(AB, SOME))
        for move in (
            "0", ">", "<", "00>", "01>", "12>", "12<", "99>", "100>", "-1>", "+1>", "0>>", "0><", ">0", "0=", "x>",
            "0>0", "-", "1.>", "011<", "1", "-1", "0>,",
        ):
            for name in ("p", "q", "z", "-"):
                self.check_refused_by("bad command", desk, "step " + name + " " + move)
        for place, mark, name in itertools.product(range(12), "<>", ("p", "q", "g", "e", "z")):
            self.check_by_hand(AB, SOME, "step " + name + " " + str(place) + mark)

    def test_commands_with_words_of_all_kinds(self):
        names = ("e", "f", "p", "q", "r", "x", "P", "-", "abcdefghi")
        people = ("-", "aab", "baa", "bba", "baab", "c", "--", "a" * 13, "b")
        places = ("0", "1", "3", "4", "12", "13", "99", "00", "100", "-1")
        badges = ("a", "b", "c", "-", "ab")
        for named in (SOME, FULL):
            for words in itertools.chain(
                itertools.product(("line", "ring", "walk", "why"), names, people),
                itertools.product(("drop", "close", "form", "size", "steps", "rank", "turn"), names),
                itertools.product(("enter",), names, places, badges),
                itertools.product(("leave", "cut"), names, places),
                itertools.product(("step",), names, ("0<", "0>", "1<", "2>", "11>", "12>")),
                itertools.product(("join", "alike"), names, names),
                itertools.product(("part",), names, places, names),
            ):
                self.check_by_hand(AB, named, " ".join(words))


if __name__ == "__main__":
    unittest.main()
