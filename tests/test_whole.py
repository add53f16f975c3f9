"""Points [1] to [4] over the whole program, and sessions beside the functions for lines and rings."""

import ast
import collections
import copy
import itertools
import os
import random
import unittest

from crewstep.desk import Desk
from crewstep.errors import NoName, NothingToUndo
from crewstep.forms import form_of, is_form
from crewstep.parsing import parse_yard
from crewstep.people import counts_of, turned
from crewstep.ranks import line_at, rank_of
from crewstep.readings import core_of
from crewstep.ringforms import is_ring_form, least_turn, ring_form_of
from crewstep.ringseries import ring_class_size
from crewstep.ringsteps import ring_after_walk
from crewstep.ringways import ring_way_between, ring_why_not
from crewstep.series import class_size
from crewstep.steps import after_walk
from crewstep.texts import roster_text, yard_text
from crewstep.ways import way_between, why_not
from crewstep.yards import Yard
from tests.checks import A2B2, AB
from tests.sessions import FirstError, YardTest, after_by_hand, moved, possible_steps
from tests.test_package import INTERFACE, TOP, module_of

RING_FORM = ((3, 1), "ab", 1)
YARD = (("line", "p", "aab"), ("ring", "q", "abba"))

# For each function of the interface a call that raises no error, by the names of its parameters.
CALLS = {
    "check_roster": {}, "is_roster": {"thing": A2B2}, "badges_of": {}, "size_of": {"badge": "a"},
    "check_line": {"line": "aab"}, "check_ring": {"ring": "aab"}, "is_line": {"thing": "aab"},
    "is_ring": {"thing": "aab"}, "counts_of": {"line": "aab"}, "turned": {"ring": "aab", "by": -4},
    "crews_at": {"line": "aab"}, "steps_of": {"line": "aab", "badge": "a"},
    "after_walk": {"line": "aab", "walk": ((0, 1),)}, "undo_walk": {"line": "aab", "walk": ((0, 1),)},
    "reading_of": {"line": "baab"}, "left_by": {"line": "baab", "reading": ((1, 2),)},
    "is_complete": {"line": "baab", "reading": ((1, 2),)}, "core_of": {"line": "baa"},
    "crew_counts": {"line": "baab"}, "check_form": {"form": ((2, 1), "b")}, "is_form": {"thing": ((2, 1), "b")},
    "form_of": {"line": "aab"}, "standard_line": {"form": ((2, 1), "b")},
    "joined_form": {"first": ((2, 1), "b"), "second": ((1, 1), "ab")},
    "why_not": {"start": "aabb", "goal": "abab"}, "way_between": {"start": "abba", "goal": "bbaa"},
    "least_steps": {"start": "aabab", "goal": "babaa"}, "least_way": {"start": "aabab", "goal": "babaa"},
    "class_size": {"form": ((2, 2), "")}, "reduced_words": {"counts": (2, 2)},
    "count_beginning": {"form": ((2, 2), ""), "word": "a"}, "first_badges": {"form": ((2, 2), "")},
    "rank_of": {"line": "baab"}, "line_at": {"form": ((2, 2), ""), "rank": 1}, "next_line": {"line": "abba"},
    "newcomers": {"line": "ab", "core": "", "front": True}, "completion": {"line": "ab", "goal": "aabb"},
    "ring_crews_at": {"ring": "abaa"}, "ring_steps_of": {"ring": "abaa", "badge": None},
    "ring_after_walk": {"ring": "aba", "walk": ((2, 1),)}, "ring_undo_walk": {"ring": "aba", "walk": ((2, 1),)},
    "ring_reading_of": {"ring": "aba"}, "ring_left_by": {"ring": "aba", "reading": ((2, 0),)},
    "ring_is_complete": {"ring": "aba", "reading": ()}, "ring_core_of": {"ring": "baaa"},
    "ring_crew_counts": {"ring": "aba"}, "divisor_of": {"ring": "baaa"}, "check_ring_form": {"form": RING_FORM},
    "is_ring_form": {"thing": RING_FORM}, "ring_form_of": {"ring": "aaba"}, "standard_ring": {"form": RING_FORM},
    "least_turn": {"form": RING_FORM}, "rings_alike": {"form": RING_FORM},
    "ring_why_not": {"start": "aaab", "goal": "aaba"}, "ring_way_between": {"start": "aaab", "goal": "abaa"},
    "ring_class_size": {"form": RING_FORM}, "is_edit": {"thing": ("cut", ["p"], {"q": 1})},
    "roster_text": {}, "walk_text": {"walk": ((0, 1), (11, -1))}, "parse_roster": {"text": "a2 b0"},
    "parse_walk": {"text": "0> 11<"},
}
# These take or return sessions, and are looked at on their own.
SESSION_CALLS = ("yard_text", "parse_yard")


def is_fixed(thing):
    """Tell whether nobody can change the object."""
    if isinstance(thing, tuple):
        return all(is_fixed(item) for item in thing)
    return thing is None or type(thing) in (bool, int, str)


class CallsTest(YardTest):
    def test_equal_calls_return_equal_results_that_nobody_can_change(self):
        names = [name for functions in INTERFACE.values() for name in functions]
        self.assertEqual(sorted(names), sorted(list(CALLS) + list(SESSION_CALLS)))
        for file, functions in INTERFACE.items():
            for name, parameters in functions.items():
                if name in CALLS:
                    self.check_call(getattr(module_of(file), name), parameters, CALLS[name])

    def check_call(self, function, parameters, named):
        if "roster" in parameters:
            named = {"roster": A2B2, **named}
        result = function(**named)
        with self.subTest(function=function.__name__):
            self.assertTrue(is_fixed(result))
            self.check_returns(result, function, **named)
            by_position = [named[name] for name in parameters if "=" not in name]
            by_name = {name: named[name] for name in named if name not in parameters}
            self.check_returns(result, function, *by_position, **by_name)
            backwards = dict(reversed(list(named.items())))
            self.check_returns(result, function, **copy.deepcopy(backwards))

    def test_sessions_are_not_shared(self):
        text = "a2 b2\nline p aab\nring q abba"
        one, other = parse_yard(text), parse_yard(text)
        self.assertIsNot(one, other)
        self.assertEqual(one, other)
        self.check_same(yard_text(one), text)
        self.check_same([one.names(), len(one.history())], [("p", "q"), 0])
        one.apply(("drop", "p"))
        self.check_same(str(other), text)

    def test_what_a_session_returns_cannot_be_changed(self):
        yard = Yard(AB)
        yard.together(YARD)
        for result in (
            yard.roster(), yard.names(), yard.shape_of("p"), yard.people_of("p"), yard.form("q"), yard.history(),
            yard.are_alike("p", "q"), len(yard), str(yard),
        ):
            self.assertTrue(is_fixed(result))

    def test_lists_and_dicts_in_an_edit_that_is_refused_are_not_kept_or_changed(self):
        yard = Yard(AB)
        yard.together(YARD)
        for thing in ([], ["p"], {}, {"p": 1}, [["p"], {"q": []}]):
            for edit in (
                ("drop", thing), ("line", thing, thing), ("line", "x", thing), ("enter", "p", thing, thing),
                ("enter", "p", 0, thing), ("step", "p", thing, 1), ("step", "p", 0, thing), ("join", "p", thing),
                ("part", "p", thing, "x"), ("part", "p", 0, thing), ("walk", "q", thing), ("cut", "q", thing),
            ):
                before = copy.deepcopy(edit)
                with self.assertRaises((ValueError, LookupError)):
                    yard.together((("step", "p", 0, 1), edit))
                self.assertEqual(edit, before)
                self.check_same(yard.history(), (YARD,))
                self.check_same(yard.people_of("p"), "aab")

    def test_the_package_imports_nothing_but_itself_and_the_greatest_common_divisor(self):
        folder = os.path.join(TOP, "crewstep")
        for file in sorted(os.listdir(folder)):
            with open(os.path.join(folder, file), encoding="ascii") as source:
                tree = ast.parse(source.read())
            for node in ast.walk(tree):
                self.assertNotIsInstance(node, ast.Import, file)
                if isinstance(node, ast.ImportFrom) and not node.module.startswith("crewstep."):
                    self.assertEqual([node.module, [one.name for one in node.names]], ["math", ["gcd"]], file)


def edits_for(chance, roster, named):
    """One edit of each word, with items that are often as they should be."""
    badges = [badge for badge, _ in roster]
    pool = list("pqrstuvwx") + 2 * sorted(named)
    name, other = chance.choice(pool), chance.choice(pool)
    shape, people = named.get(name, ("line", "ab"))
    place = chance.randrange(max(len(people), 1) + 1)
    new = "".join(chance.choice(badges) for _ in range(chance.randrange(8)))
    steps = possible_steps(roster, shape, people) or ((place, 1),)
    return (
        ("line", name, new), ("ring", name, new), ("drop", name), ("step", name, *chance.choice(steps)),
        ("walk", name, far_from(chance, roster, shape, people)), ("enter", name, place, chance.choice(badges)),
        ("leave", name, place), ("close", name), ("cut", name, place), ("join", name, other),
        ("part", name, place, other),
    )


def far_from(chance, roster, shape, people):
    """A line or ring to which this one can be walked."""
    for _ in range(5):
        steps = possible_steps(roster, shape, people)
        if steps:
            people = (ring_after_walk if shape == "ring" else after_walk)(roster, people, (chance.choice(steps),))
    return people


def after_all(roster, named, edits):
    """The names after all of the edits, or None if one of them is refused."""
    try:
        for edit in edits:
            named = after_by_hand(roster, named, edit)
    except FirstError:
        return None
    return named


def command_of(edit):
    """The command of the desk for an edit."""
    if edit[0] == "step":
        edit = edit[:2] + (str(edit[2]) + "<>"[edit[3] == 1],)
    return " ".join(str(item) or "-" for item in edit)


class LongSessionTest(YardTest):
    """Sessions that go through all edits, beside the functions and beside a list of all their states."""

    rosters = (
        AB, A2B2, (("a", 1), ("b", 2), ("c", 3)), (("a", 1), ("b", 1), ("c", 0), ("d", 2)), (("a", 4), ("b", 2)),
    )

    def test_sessions(self):
        made = collections.Counter()
        for seed, roster in itertools.product(range(4), self.rosters):
            chance = random.Random(seed)
            yard, states, at = Yard(roster), [{}], 0
            for _ in range(300):
                if chance.randrange(3) == 0:
                    at += self.check_move(yard, states, at, chance.choice(("undo", "redo")))
                else:
                    many = chance.choice((1, 1, 2))
                    edits = tuple(chance.choice(edits_for(chance, roster, states[at])) for _ in range(many))
                    after = after_all(roster, states[at], edits)
                    if after is None:
                        self.check_not_made(yard, edits)
                    else:
                        yard.together(edits)
                        at += 1
                        states[at:] = [after]
                        made.update(edit[0] for edit in edits)
                self.check_named(yard, states[at])
                self.check_same(len(yard.history()), at)
            self.check_questions(yard, states[at])
        self.assertEqual(len(made), 11, made)
        self.assertGreater(min(made.values()), 9, made)

    def check_move(self, yard, states, at, move):
        """Undo or redo, and return by how many actions the session went on."""
        by = -1 if move == "undo" else 1
        if 0 <= at + by < len(states):
            getattr(yard, move)()
            return by
        self.check_raises(NothingToUndo, {"action": move}, getattr(yard, move))
        return 0

    def check_not_made(self, yard, edits):
        before = str(yard), yard.history()
        with self.assertRaises((ValueError, RuntimeError, LookupError)):
            yard.together(edits)
        self.check_same((str(yard), yard.history()), before)

    def test_a_desk_beside_a_session(self):
        for seed, roster in itertools.product(range(4), self.rosters):
            chance = random.Random(seed)
            yard, desk = Yard(roster), Desk(roster_text(roster))
            for _ in range(300):
                before = str(yard)
                if chance.randrange(3) == 0:
                    move = chance.choice(("undo", "redo"))
                    self.check_same(desk.say(move), "done" if moved(yard, getattr(Yard, move)) else "nothing")
                else:
                    edit = chance.choice(edits_for(chance, roster, named_by(yard)))
                    refused = after_all(roster, named_by(yard), (edit,)) is None
                    self.assertEqual(desk.say(command_of(edit)) != "done", refused, edit)
                    if not refused:
                        yard.apply(edit)
                        self.check_same(str(yard) == before, desk.say("show") == before)
                self.check_same(desk.say("show"), str(yard))

    def check_questions(self, yard, named):
        """What the session and a desk on it answer is what the functions return."""
        roster, desk = yard.roster(), Desk(str(yard))
        for name, (shape, people) in named.items():
            if shape == "line":
                self.check_line(yard, desk, name, people)
            else:
                self.check_ring(yard, desk, name, people)
        for name, other in itertools.product(named, repeat=2):
            (shape, start), (other_shape, goal) = named[name], named[other]
            alike = shape == other_shape and (ring_why_not if shape == "ring" else why_not)(roster, start, goal) is None
            self.check_same(yard.are_alike(name, other), alike)
            self.check_same(desk.say("alike " + name + " " + other), "yes" if alike else "no")
        self.check_same(desk.say("show"), yard_text(yard))
        self.check_raises(NoName, {"name": "none"}, yard.form, "none")

    def check_line(self, yard, desk, name, line):
        roster, form = yard.roster(), form_of(yard.roster(), line)
        self.check_same(yard.form(name), form)
        self.check_same(form, (counts_of(roster, line), core_of(roster, line)))
        self.assertTrue(is_form(roster, form))
        self.check_same(desk.say("size " + name), str(class_size(roster, form)))
        self.check_same(desk.say("rank " + name), str(rank_of(roster, line)))
        last = line_at(roster, form, class_size(roster, form) - 1)
        self.check_same(desk.say("why " + name + " " + (last or "-")), "reachable")
        self.check_walked(yard, name, last, way_between(roster, line, last))

    def check_ring(self, yard, desk, name, ring):
        roster, form = yard.roster(), ring_form_of(yard.roster(), ring)
        self.check_same(yard.form(name), form)
        self.assertTrue(is_ring_form(roster, form))
        self.check_same(desk.say("size " + name), str(ring_class_size(roster, form)))
        self.check_same(desk.say("turn " + name), str(least_turn(roster, form)))
        around = turned(roster, ring, least_turn(roster, form))
        self.check_same(desk.say("why " + name + " " + around), "reachable")
        self.check_walked(yard, name, around, ring_way_between(roster, ring, around))

    def check_walked(self, yard, name, goal, walk):
        """The edits "walk" and "step" lead to the same."""
        twin = yard.twin()
        twin.apply(("walk", name, goal))
        self.check_same(twin.people_of(name), goal)
        twin.undo()
        for step in walk:
            twin.apply(("step", name, *step))
        self.check_same(twin.people_of(name), goal)


def named_by(yard):
    return {name: (yard.shape_of(name), yard.people_of(name)) for name in yard.names()}


if __name__ == "__main__":
    unittest.main()
