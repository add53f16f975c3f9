"""Points [2], [4], [21], [23]: sessions, crewstep/yards.py."""

import itertools
import unittest

from crewstep.errors import (
    EmptyRing, Full, InvalidBadge, InvalidEdit, InvalidName, InvalidPeople, InvalidPlace, InvalidRoster,
    InvalidWalk, NameTaken, NoName, NothingToUndo, NotPossible, NotReachable, WrongShape,
)
from crewstep.forms import form_of
from crewstep.ringforms import ring_form_of
from crewstep.yards import Yard
from tests.checks import A2B2, AB, NO_TUPLES, THINGS, WRONG_LINES, WRONG_ROSTERS, WRONG_STEPS
from tests.sessions import (
    FULL, NAMES, NO_NAMES, SOME, FirstError, YardTest, after_by_hand, text_by_hand, yard_of,
)

ONE = {"p": ("line", "aab")}

NO_PLACES = (
    -1, 13, 10 ** 29, -(10 ** 29), True, False, None, "", "0", "1", (), (0,), [], [0], {}, {0: 0}, (0, 1),
)
NO_BADGES = ("", "c", "A", "ab", "a ", "-", "0", None, True, 0, ("a",), ["a"], {"a": 2}, (), [], {})
NO_NAME_THINGS = NO_NAMES + tuple(thing for thing in THINGS if thing not in ("a", "ab")) + (
    ("p",), ["p"], {"p": 1}, {},
)


class NewYardTest(YardTest):
    def test_a_session_without_names(self):
        for roster in (AB, A2B2, (("z", 5),), (("a", 0), ("b", 1), ("c", 2), ("d", 3))):
            yard = Yard(roster)
            self.check_named(yard, {})
            self.check_same(yard.roster(), roster)
            self.check_same(yard.history(), ())
            self.check_same(len(yard), 0)
            self.assertEqual(Yard(roster=roster), yard)

    def test_invalid_rosters(self):
        for roster, entry in WRONG_ROSTERS:
            self.check_raises(InvalidRoster, {"entry": entry}, Yard, roster)
            self.check_raises(InvalidRoster, {"entry": entry}, Yard, roster=roster)

    def test_the_examples(self):
        yard = Yard(AB)
        self.check_same(yard.apply(("line", "p", "aab")), None)
        self.check_same(yard.apply(("step", "p", 0, 1)), None)
        self.check_same(yard.people_of("p"), "baa")
        yard = Yard(AB)
        self.check_same(yard.together((("line", "p", "aab"), ("close", "p"), ("cut", "p", 2))), None)
        self.check_same(yard.undo(), None)
        self.check_same(yard.redo(), None)
        self.check_same([yard.people_of("p"), yard.shape_of("p"), len(yard.history())], ["baa", "line", 1])
        yard = Yard(AB)
        self.check_refused(EmptyRing, {"name": "q"}, yard, "together", (("ring", "q", "b"), ("leave", "q", 0)))


class EffectTest(YardTest):
    """The effect of each row of the table."""

    def check_effect(self, named, edit, expected):
        """The edit makes the names so, by apply and by together, and undo takes it back."""
        self.assertEqual(after_by_hand(AB, named, edit), expected)
        for method, argument in (("apply", edit), ("together", (edit,))):
            yard = yard_of(AB, named)
            self.check_same(getattr(yard, method)(argument), None)
            self.check_named(yard, expected)
            self.check_same(yard.history()[-1], (edit,))
            yard.undo()
            self.check_named(yard, named)
            yard.redo()
            self.check_named(yard, expected)

    def test_line_and_ring(self):
        self.check_effect({}, ("line", "p", ""), {"p": ("line", "")})
        self.check_effect({}, ("line", "p", "b" * 12), {"p": ("line", "b" * 12)})
        self.check_effect(ONE, ("line", "ab", "ab"), {**ONE, "ab": ("line", "ab")})
        self.check_effect(ONE, ("ring", "ab", "ab"), {**ONE, "ab": ("ring", "ab")})
        self.check_effect(ONE, ("ring", "ring", "b"), {**ONE, "ring": ("ring", "b")})
        self.check_effect(SOME, ("ring", "h", "ababab"), FULL)
        for name in NAMES:
            self.check_effect({}, ("line", name, "a"), {name: ("line", "a")})
            self.check_effect({}, ("ring", name, "a"), {name: ("ring", "a")})

    def test_drop(self):
        self.check_effect(ONE, ("drop", "p"), {})
        for name in FULL:
            self.check_effect(FULL, ("drop", name), {one: FULL[one] for one in FULL if one != name})

    def test_step(self):
        self.check_effect(ONE, ("step", "p", 0, 1), {"p": ("line", "baa")})
        self.check_effect({"p": ("line", "baa")}, ("step", "p", 1, -1), ONE)
        self.check_effect({"q": ("ring", "aba")}, ("step", "q", 2, 1), {"q": ("ring", "aab")})
        self.check_effect({"q": ("ring", "aba")}, ("step", "q", 2, -1), {"q": ("ring", "baa")})
        self.check_effect(SOME, ("step", "g", 10, 1), {**SOME, "g": ("ring", "abaabbaabbba")})

    def test_walk(self):
        self.check_effect(ONE, ("walk", "p", "baa"), {"p": ("line", "baa")})
        self.check_effect(ONE, ("walk", "p", "aab"), ONE)
        self.check_effect(SOME, ("walk", "e", ""), SOME)
        self.check_effect(SOME, ("walk", "q", "baab"), {**SOME, "q": ("ring", "baab")})
        self.check_effect(SOME, ("walk", "r", "b"), SOME)
        self.check_effect(SOME, ("walk", "f", "bbbbbbaaaaaa"), {**SOME, "f": ("line", "bbbbbbaaaaaa")})

    def test_enter(self):
        for place, people in enumerate(("baab", "abab", "aabb", "aabb")):
            self.check_effect(ONE, ("enter", "p", place, "b"), {"p": ("line", people)})
        self.check_effect(SOME, ("enter", "e", 0, "a"), {**SOME, "e": ("line", "a")})
        self.check_effect(SOME, ("enter", "r", 0, "a"), {**SOME, "r": ("ring", "ab")})
        self.check_effect(SOME, ("enter", "r", 1, "a"), {**SOME, "r": ("ring", "ba")})
        self.check_effect({"p": ("line", "a" * 11)}, ("enter", "p", 11, "b"), {"p": ("line", "a" * 11 + "b")})
        self.check_effect({"p": ("ring", "a" * 11)}, ("enter", "p", 0, "b"), {"p": ("ring", "b" + "a" * 11)})

    def test_leave(self):
        for place, people in enumerate(("ab", "ab", "aa")):
            self.check_effect(ONE, ("leave", "p", place), {"p": ("line", people)})
        self.check_effect({"p": ("line", "b")}, ("leave", "p", 0), {"p": ("line", "")})
        self.check_effect({"p": ("ring", "ab")}, ("leave", "p", 1), {"p": ("ring", "a")})
        self.check_effect(SOME, ("leave", "g", 11), {**SOME, "g": ("ring", "bbaabbaabba")})

    def test_close(self):
        self.check_effect(ONE, ("close", "p"), {"p": ("ring", "aab")})
        self.check_effect({"p": ("line", "b")}, ("close", "p"), {"p": ("ring", "b")})

    def test_cut(self):
        for place, people in enumerate(("abba", "bbaa", "baab", "aabb")):
            self.check_effect(SOME, ("cut", "q", place), {**SOME, "q": ("line", people)})
        self.check_effect(SOME, ("cut", "r", 0), {**SOME, "r": ("line", "b")})
        self.check_effect({"q": ("ring", "aab")}, ("cut", "q", 1), {"q": ("line", "aba")})

    def test_join(self):
        two = {"p": ("line", "aab"), "q": ("line", "ba")}
        self.check_effect(two, ("join", "p", "q"), {"p": ("line", "aabba")})
        self.check_effect(two, ("join", "q", "p"), {"q": ("line", "baaab")})
        self.check_effect({"p": ("line", ""), "q": ("line", "")}, ("join", "p", "q"), {"p": ("line", "")})
        twelve = {"p": ("line", "a" * 5), "q": ("line", "b" * 7)}
        self.check_effect(twelve, ("join", "p", "q"), {"p": ("line", "aaaaabbbbbbb")})
        rest = {name: FULL[name] for name in FULL if name not in ("e", "f")}
        self.check_effect(FULL, ("join", "e", "f"), {**rest, "e": FULL["f"]})
        self.check_effect(FULL, ("join", "f", "e"), {**rest, "f": FULL["f"]})

    def test_part(self):
        for place in range(4):
            parts = {"p": ("line", "aab"[:place]), "q": ("line", "aab"[place:])}
            self.check_effect(ONE, ("part", "p", place, "q"), parts)
        self.check_effect({"p": ("line", "")}, ("part", "p", 0, "q"), {"p": ("line", ""), "q": ("line", "")})
        self.check_effect(SOME, ("part", "f", 12, "b"), {**SOME, "b": ("line", "")})
        self.check_effect(SOME, ("part", "f", 7, "b"), {**SOME, "f": ("line", "aabbaab"), "b": ("line", "baabb")})


class RefusedTest(YardTest):
    """The errors of each row of the table, each with its field, in the order of the row."""

    def check_edit(self, kind, field, named, edit):
        """The edit is refused with this error, and nothing changes, also if something can be redone."""
        with self.assertRaises(FirstError) as expected:
            after_by_hand(AB, named, edit)
        self.assertIs(expected.exception.kind, kind)
        self.check_same(expected.exception.fields, tuple(field.values()))
        yard = yard_of(AB, named)
        self.check_refused(kind, field, yard, "apply", edit)
        self.check_refused(kind, field, yard, "together", (edit,))
        if named:
            yard.apply(("drop", min(named)))
            yard.undo()
            self.check_refused(kind, field, yard, "apply", edit)
            yard.redo()

    def check_no_names(self, *edits):
        """Each of the edits, whose name is put in for None, needs a name in use."""
        for edit, name in itertools.product(edits, NO_NAME_THINGS + ("z", "pp", "ab", "a")):
            word, *others = edit
            self.check_edit(NoName, {"name": name}, ONE, (word, name, *others))

    def test_line_and_ring(self):
        for shape in ("line", "ring"):
            for name in NO_NAME_THINGS:
                self.check_edit(InvalidName, {"name": name}, ONE, (shape, name, "a"))
                self.check_edit(InvalidName, {"name": name}, FULL, (shape, name, None))
            for named, people in itertools.product((ONE, FULL), ("a", "c", None, "a" * 13, "")):
                self.check_edit(NameTaken, {"name": "p"}, named, (shape, "p", people))
            for people, place in WRONG_LINES:
                self.check_edit(InvalidPeople, {"place": place}, ONE, (shape, "q", people))
                self.check_edit(InvalidPeople, {"place": place}, FULL, (shape, "i", people))
            self.check_edit(Full, {"limit": 8}, FULL, (shape, "i", "a"))
        self.check_edit(InvalidPeople, {"place": None}, ONE, ("ring", "q", ""))
        self.check_edit(InvalidPeople, {"place": None}, FULL, ("ring", "i", ""))
        self.check_edit(Full, {"limit": 8}, FULL, ("line", "i", ""))

    def test_drop(self):
        self.check_no_names(("drop",))

    def test_step(self):
        self.check_no_names(("step", 0, 1), ("step", None, None), ("step", 7, 1))
        for thing in WRONG_STEPS:
            if isinstance(thing, tuple) and len(thing) == 2:
                for name in ("p", "q"):
                    self.check_edit(InvalidWalk, {"index": 0}, SOME, ("step", name, *thing))
        for name, place, side in (
            ("p", 0, -1), ("p", 1, 1), ("p", 2, -1), ("p", 3, 1), ("p", 11, -1), ("e", 0, 1), ("r", 0, 1),
            ("q", 0, 1), ("q", 1, 1), ("q", 4, 1), ("g", 11, 1),
        ):
            self.check_edit(NotPossible, {"index": 0}, SOME, ("step", name, place, side))

    def test_walk(self):
        self.check_no_names(("walk", "aab"), ("walk", None), ("walk", "c"))
        for people, place in WRONG_LINES:
            for name in ("p", "q", "e"):
                self.check_edit(InvalidPeople, {"place": place}, SOME, ("walk", name, people))
        self.check_edit(InvalidPeople, {"place": None}, SOME, ("walk", "q", ""))
        self.check_edit(NotReachable, {"reason": ("counts", "a")}, SOME, ("walk", "p", ""))
        self.check_edit(NotReachable, {"reason": ("counts", "b")}, SOME, ("walk", "p", "aabb"))
        self.check_edit(NotReachable, {"reason": ("core", 0)}, SOME, ("walk", "p", "aba"))
        self.check_edit(NotReachable, {"reason": ("core", 0)}, SOME, ("walk", "q", "baba"))
        self.check_edit(NotReachable, {"reason": ("counts", "b")}, SOME, ("walk", "q", "aab"))
        named = {"q": ("ring", "abbb")}
        self.check_edit(NotReachable, {"reason": ("residue", 4, 0, 1)}, named, ("walk", "q", "babb"))

    def test_enter(self):
        self.check_no_names(("enter", 0, "a"), ("enter", None, None), ("enter", 0, "c"))
        for place in NO_PLACES + (4,):
            for badge in ("a", "c", None):
                self.check_edit(InvalidPlace, {"place": place}, SOME, ("enter", "p", place, badge))
        for place in NO_PLACES:
            self.check_edit(InvalidPlace, {"place": place}, SOME, ("enter", "f", place, "a"))
            self.check_edit(InvalidPlace, {"place": place}, SOME, ("enter", "g", place, None))
        self.check_edit(InvalidPlace, {"place": 1}, SOME, ("enter", "e", 1, "a"))
        self.check_edit(InvalidPlace, {"place": 2}, SOME, ("enter", "r", 2, "a"))
        for badge in NO_BADGES:
            for name in ("e", "f", "g", "p"):
                self.check_edit(InvalidBadge, {"badge": badge}, SOME, ("enter", name, 0, badge))
        for name, place in itertools.product("fg", range(13)):
            self.check_edit(Full, {"limit": 12}, SOME, ("enter", name, place, "a"))

    def test_leave(self):
        self.check_no_names(("leave", 0), ("leave", None))
        for place in NO_PLACES + (12,):
            for name in ("e", "f", "g", "r"):
                self.check_edit(InvalidPlace, {"place": place}, SOME, ("leave", name, place))
        self.check_edit(InvalidPlace, {"place": 3}, SOME, ("leave", "p", 3))
        self.check_edit(InvalidPlace, {"place": 0}, SOME, ("leave", "e", 0))
        self.check_edit(InvalidPlace, {"place": 1}, SOME, ("leave", "r", 1))
        self.check_edit(EmptyRing, {"name": "r"}, SOME, ("leave", "r", 0))

    def test_close(self):
        self.check_no_names(("close",))
        for name in "gqr":
            self.check_edit(WrongShape, {"name": name}, SOME, ("close", name))
        self.check_edit(EmptyRing, {"name": "e"}, SOME, ("close", "e"))

    def test_cut(self):
        self.check_no_names(("cut", 0), ("cut", None))
        for name, place in itertools.product("efps", (0, 12, -1, None, [])):
            self.check_edit(WrongShape, {"name": name}, SOME, ("cut", name, place))
        for name, place in itertools.product("gqr", NO_PLACES + (12,)):
            self.check_edit(InvalidPlace, {"place": place}, SOME, ("cut", name, place))
        self.check_edit(InvalidPlace, {"place": 4}, SOME, ("cut", "q", 4))
        self.check_edit(InvalidPlace, {"place": 1}, SOME, ("cut", "r", 1))

    def test_join(self):
        self.check_no_names(("join", "p"), ("join", "z"), ("join", None))
        for other in NO_NAME_THINGS + ("z", "pp"):
            self.check_edit(NoName, {"name": other}, SOME, ("join", "p", other))
            self.check_edit(NoName, {"name": other}, SOME, ("join", "q", other))
        for other in FULL:
            self.check_edit(WrongShape, {"name": "q"}, FULL, ("join", "q", other))
            self.check_edit(WrongShape, {"name": "g"}, FULL, ("join", "g", other))
        for name, ring in itertools.product("efps", "gqr"):
            self.check_edit(WrongShape, {"name": ring}, SOME, ("join", name, ring))
        for name in "efps":
            self.check_edit(NameTaken, {"name": name}, SOME, ("join", name, name))
        for name, other in (("p", "f"), ("f", "p"), ("p", "s"), ("s", "p"), ("f", "s")):
            self.check_edit(Full, {"limit": 12}, SOME, ("join", name, other))

    def test_part(self):
        self.check_no_names(("part", 0, "q"), ("part", None, None), ("part", 0, "p"))
        for name, place, other in itertools.product("gqr", (0, None, 13), ("b", "p", None)):
            self.check_edit(WrongShape, {"name": name}, SOME, ("part", name, place, other))
        for place, other in itertools.product(NO_PLACES + (4,), ("b", "p", None, "q")):
            self.check_edit(InvalidPlace, {"place": place}, FULL, ("part", "p", place, other))
        for other, named in itertools.product(NO_NAME_THINGS, (ONE, FULL)):
            self.check_edit(InvalidName, {"name": other}, named, ("part", "p", 3, other))
        for other in FULL:
            self.check_edit(NameTaken, {"name": other}, FULL, ("part", "p", 0, other))
            self.check_edit(NameTaken, {"name": other}, FULL, ("part", "e", 0, other))
        self.check_edit(NameTaken, {"name": "p"}, ONE, ("part", "p", 1, "p"))
        self.check_edit(Full, {"limit": 8}, FULL, ("part", "p", 1, "b"))
        self.check_edit(Full, {"limit": 8}, FULL, ("part", "e", 0, "b"))

    def test_every_edit_with_items_of_all_kinds(self):
        names = ("e", "f", "p", "q", "r", "z", "P", "", None, ["p"], True)
        places = (-1, 0, 1, 3, 4, 11, 12, 13, True, None, "0")
        sides = (1, -1, 0, True, None)
        badges = ("a", "b", "c", "", None, ["a"], 0)
        people = ("", "aab", "baa", "abab", "baab", "ac", "a" * 13, None, ["a"])
        for named in (SOME, FULL):
            yard = yard_of(AB, named)
            for edit in itertools.chain(
                itertools.product(("line", "ring", "walk"), names, people),
                itertools.product(("drop", "close"), names),
                itertools.product(("step",), names, places, sides),
                itertools.product(("enter",), names, places, badges),
                itertools.product(("leave", "cut"), names, places),
                itertools.product(("join",), names, names),
                itertools.product(("part",), names, places, names),
            ):
                self.check_by_hand(yard, named, edit)

    def check_by_hand(self, yard, named, edit):
        twin = yard.twin()
        try:
            named = after_by_hand(AB, named, edit)
        except FirstError as expected:
            with self.assertRaises(expected.kind, msg=edit) as caught:
                twin.apply(edit)
            self.assertEqual(repr(tuple(vars(caught.exception).values())), repr(expected.fields), edit)
            self.assertEqual(twin.history(), yard.history())
        else:
            twin.apply(edit)
            self.assertEqual(twin.history(), yard.history() + ((edit,),))
        self.assertEqual(str(twin), text_by_hand(AB, named), edit)


class TogetherTest(YardTest):
    def test_one_action(self):
        yard = Yard(AB)
        edits = (("line", "p", "aab"), ("part", "p", 1, "q"), ("close", "q"), ("step", "q", 0, 1))
        self.check_refused(NotPossible, {"index": 0}, yard, "together", edits)
        edits = edits[:3] + (("enter", "q", 1, "a"),)
        self.check_same(yard.together(edits), None)
        self.check_named(yard, {"p": ("line", "a"), "q": ("ring", "aab")})
        self.check_same(yard.history(), (edits,))
        yard.undo()
        self.check_named(yard, {})
        yard.redo()
        self.check_named(yard, {"p": ("line", "a"), "q": ("ring", "aab")})

    def test_one_to_fifty_edits(self):
        steps = (("step", "p", 0, 1), ("step", "p", 1, -1))
        for many in (1, 2, 3, 49, 50):
            yard = yard_of(AB, ONE)
            yard.together(edits=(steps * 25)[:many])
            self.check_named(yard, {"p": ("line", "aab" if many % 2 == 0 else "baa")})
        for many in (0, 51, 52, 2000):
            yard = yard_of(AB, ONE)
            self.check_refused(InvalidEdit, {"index": None}, yard, "together", (steps * 1000)[:many])
            self.check_refused(InvalidEdit, {"index": None}, yard, "together", (None,) * many)

    def test_objects_that_are_no_tuples(self):
        yard = yard_of(AB, ONE)
        for edits in NO_TUPLES + ([("drop", "p")], {("drop", "p"): 1}, "drop"):
            self.check_refused(InvalidEdit, {"index": None}, yard, "together", edits)
        self.check_refused(InvalidEdit, {"index": 0}, yard, "together", ("drop", "p"))

    def test_items_that_are_no_edits(self):
        yard = yard_of(AB, ONE)
        drop = ("drop", "p")
        for item in THINGS + (["drop", "p"], ("drop",), ("drop", "p", "q"), ("undo",), "drop p", (drop,)):
            self.check_refused(InvalidEdit, {"index": 0}, yard, "apply", item)
            self.check_refused(InvalidEdit, {"index": 0}, yard, "together", (item,))
            self.check_refused(InvalidEdit, {"index": 1}, yard, "together", (drop, item))
            self.check_refused(InvalidEdit, {"index": 1}, yard, "together", (drop, item, None, drop))
            # No edit is applied before, so none raises its error.
            self.check_refused(InvalidEdit, {"index": 49}, yard, "together", (("drop", "z"),) * 49 + (item,))

    def test_the_first_error_of_an_edit(self):
        yard = yard_of(AB, ONE)
        add = ("ring", "q", "ab")
        self.check_refused(NameTaken, {"name": "q"}, yard, "together", (add, add, ("drop", "z")))
        self.check_refused(NoName, {"name": "p"}, yard, "together", (("drop", "p"), ("drop", "p"), add))
        self.check_refused(EmptyRing, {"name": "q"}, yard, "together", (add,) + (("leave", "q", 0),) * 2)
        self.check_refused(WrongShape, {"name": "q"}, yard, "together", (add, ("close", "q")))
        eight = tuple(("line", name, "") for name in "abcdefgh")
        self.check_refused(Full, {"limit": 8}, yard, "together", eight)
        self.check_refused(Full, {"limit": 8}, Yard(AB), "together", eight + (add,))
        yard.together((("drop", "p"),) + eight)
        self.assertEqual(len(yard), 8)

    def test_an_edit_sees_the_edits_before_it(self):
        yard = Yard(AB)
        yard.together((("line", "p", "ab"), ("drop", "p"), ("ring", "p", "aab"), ("step", "p", 0, -1)))
        self.check_named(yard, {"p": ("ring", "aba")})


class UndoTest(YardTest):
    def test_nothing_to_undo_or_redo(self):
        yard = Yard(AB)
        self.check_refused(NothingToUndo, {"action": "undo"}, yard, "undo")
        self.check_refused(NothingToUndo, {"action": "redo"}, yard, "redo")
        yard.apply(("line", "p", "aab"))
        self.check_refused(NothingToUndo, {"action": "redo"}, yard, "redo")
        yard.undo()
        self.check_refused(NothingToUndo, {"action": "undo"}, yard, "undo")
        yard.redo()
        self.check_refused(NothingToUndo, {"action": "redo"}, yard, "redo")

    def test_all_actions_are_undone_and_redone_in_order(self):
        edits = (
            ("line", "p", "aab"), ("step", "p", 0, 1), ("part", "p", 2, "q"), ("close", "q"), ("enter", "q", 0, "a"),
            ("cut", "q", 1), ("join", "q", "p"), ("leave", "q", 3), ("walk", "q", "baa"), ("drop", "q"),
        )
        yard = Yard(AB)
        texts = [str(yard)]
        for edit in edits:
            yard.apply(edit)
            texts.append(str(yard))
        for _ in range(2):
            for many in range(len(edits), 0, -1):
                self.check_same(yard.history(), tuple((edit,) for edit in edits[:many]))
                yard.undo()
                self.check_same(str(yard), texts[many - 1])
            self.check_refused(NothingToUndo, {"action": "undo"}, yard, "undo")
            for many in range(len(edits)):
                yard.redo()
                self.check_same(str(yard), texts[many + 1])
            self.check_refused(NothingToUndo, {"action": "redo"}, yard, "redo")

    def test_actions_that_change_nothing(self):
        yard = yard_of(AB, ONE)
        same = ("walk", "p", "aab")
        yard.apply(same)
        yard.together((("line", "q", ""), ("drop", "q")))
        self.check_same(len(yard.history()), 3)
        yard.undo()
        self.check_named(yard, ONE)
        self.check_same(yard.history(), ((("line", "p", "aab"),), (same,)))
        yard.undo()
        self.check_named(yard, ONE)
        yard.undo()
        self.check_named(yard, {})
        for many in range(3):
            yard.redo()
            self.check_named(yard, ONE)
            self.check_same(len(yard.history()), many + 1)

    def test_a_new_action_removes_what_could_be_redone(self):
        for new in (("walk", "p", "aab"), ("line", "q", "b"), ("step", "p", 0, 1)):
            yard = yard_of(AB, ONE)
            yard.apply(("enter", "p", 0, "b"))
            yard.apply(("leave", "p", 0))
            yard.undo()
            yard.undo()
            yard.apply(new)
            self.check_refused(NothingToUndo, {"action": "redo"}, yard, "redo")
            self.check_same(yard.history(), ((("line", "p", "aab"),), (new,)))
            yard.undo()
            self.check_named(yard, ONE)

    def test_a_call_that_raises_an_error_does_not(self):
        yard = yard_of(AB, ONE)
        yard.apply(("drop", "p"))
        yard.undo()
        for call in (
            lambda: yard.apply(("drop", "q")), lambda: yard.apply(None), lambda: yard.together(()),
            lambda: yard.together((("leave", "p", 0), ("drop", "q"))), lambda: yard.people_of("q"),
        ):
            with self.assertRaises((NoName, InvalidEdit)):
                call()
        yard.redo()
        self.check_named(yard, {})
        with self.assertRaises(NothingToUndo):
            yard.redo()
        yard.undo()
        self.check_named(yard, ONE)


class QuestionsTest(YardTest):
    def test_names_are_ascending(self):
        yard = yard_of(AB, {name: ("line", "") for name in ("b", "zz", "aa", "z", "a", "ab", "abcdefgh")})
        self.check_returns(("a", "aa", "ab", "abcdefgh", "b", "z", "zz"), yard.names)
        self.check_returns(7, yard.__len__)

    def test_shape_people_and_form(self):
        yard = yard_of(AB, FULL)
        for name, (shape, people) in FULL.items():
            self.check_returns(shape, yard.shape_of, name)
            self.check_returns(people, yard.people_of, name=name)
            form = (ring_form_of if shape == "ring" else form_of)(AB, people)
            self.check_returns(form, yard.form, name)
            self.check_returns(form, yard.form, name=name)
        self.check_returns(AB, yard.roster)

    def test_names_that_are_not_in_use(self):
        yard = yard_of(AB, ONE)
        for name in NO_NAME_THINGS + ("z", "q"):
            for method in ("shape_of", "people_of", "form"):
                self.check_refused(NoName, {"name": name}, yard, method, name)
            self.check_refused(NoName, {"name": name}, yard, "are_alike", "p", name)
            self.check_refused(NoName, {"name": name}, yard, "are_alike", name, "p")
            self.check_refused(NoName, {"name": name}, yard, "are_alike", name, None)
        self.check_raises(NoName, {"name": "x"}, yard.are_alike, other="y", name="x")

    def test_are_alike(self):
        named = {
            "a": ("line", "aab"), "b": ("line", "baa"), "c": ("line", "aba"), "d": ("ring", "aab"),
            "e": ("ring", "baa"), "f": ("line", ""), "g": ("ring", "b"), "h": ("line", "b"),
        }
        alike = ("ab", "de")
        yard = yard_of(AB, named)
        for name, other in itertools.product(named, repeat=2):
            expected = name == other or name + other in alike or other + name in alike
            self.check_returns(expected, yard.are_alike, name, other)
            self.check_returns(expected, yard.are_alike, other=other, name=name)
        yard = yard_of(A2B2, {"p": ("ring", "aaab"), "q": ("ring", "aaba"), "r": ("ring", "abaa")})
        self.check_returns(False, yard.are_alike, "p", "q")
        self.check_returns(True, yard.are_alike, "p", "r")
        self.check_returns(False, yard.are_alike, "q", "r")


class TwinTest(YardTest):
    def test_a_twin_goes_its_own_way(self):
        yard = yard_of(AB, ONE)
        yard.apply(("enter", "p", 0, "b"))
        yard.apply(("close", "p"))
        yard.undo()
        twin = yard.twin()
        self.assertIsNot(twin, yard)
        self.assertIsInstance(twin, Yard)
        self.check_same(self.seen(twin), self.seen(yard))
        before = self.seen(yard)
        twin.apply(("line", "q", ""))
        self.check_same(self.seen(yard), before)
        for _ in range(3):
            twin.undo()
        self.check_named(twin, {})
        self.check_same(self.seen(yard), before)
        after = self.seen(twin)
        yard.redo()
        self.check_named(yard, {"p": ("ring", "baab")})
        yard.undo()
        yard.undo()
        yard.apply(("drop", "p"))
        self.check_same(self.seen(twin), after)

    def test_a_twin_is_undone_and_redone_in_the_same_way(self):
        actions = ((("line", "p", "aab"),), (("step", "p", 0, 1), ("close", "p")), (("enter", "p", 0, "b"),))
        for undone in range(4):
            yard = Yard(AB)
            texts = [str(yard)]
            for action in actions:
                yard.together(action)
                texts.append(str(yard))
            for _ in range(undone):
                yard.undo()
            twin, other = yard.twin(), yard.twin()
            # What each of the three does has no effect on the others.
            for at in range(4 - undone, 4):
                for session in (twin, other, yard):
                    session.redo()
                    self.check_same(str(session), texts[at])
                    self.check_same(session.history(), actions[:at])
            for session in (other, yard, twin):
                self.check_raises(NothingToUndo, {"action": "redo"}, session.redo)
            for at in (2, 1, 0):
                for session in (yard, twin, other):
                    session.undo()
                    self.check_same(str(session), texts[at])
                    self.check_same(session.history(), actions[:at])
            for session in (yard, twin, other):
                self.check_raises(NothingToUndo, {"action": "undo"}, session.undo)

    def test_a_twin_of_a_twin_and_of_an_empty_session(self):
        self.check_same(self.seen(Yard(AB).twin()), self.seen(Yard(AB)))
        self.check_same(Yard(A2B2).twin().roster(), A2B2)
        yard = yard_of(AB, FULL)
        self.check_same(self.seen(yard.twin().twin()), self.seen(yard))


class EqualTest(YardTest):
    def check_equal(self, equal, one, other):
        self.assertIs(one == other, equal)
        self.assertIs(other == one, equal)
        self.assertIs(one != other, not equal)

    def test_the_history_is_not_compared(self):
        one, other = yard_of(AB, FULL), yard_of(AB, dict(sorted(FULL.items(), reverse=True)))
        self.check_equal(True, one, other)
        other.apply(("drop", "p"))
        self.check_equal(False, one, other)
        other.apply(("line", "p", "aab"))
        self.check_equal(True, one, other)
        other.undo()
        self.check_equal(False, one, other)
        self.check_equal(True, Yard(AB), Yard(AB))
        self.check_equal(True, one, one.twin())

    def test_rosters_names_shapes_and_strings(self):
        one = yard_of(AB, ONE)
        self.check_equal(False, Yard(AB), Yard(A2B2))
        self.check_equal(False, one, yard_of(A2B2, ONE))
        self.check_equal(False, one, Yard(AB))
        self.check_equal(False, one, yard_of(AB, {"q": ("line", "aab")}))
        self.check_equal(False, one, yard_of(AB, {"p": ("ring", "aab")}))
        self.check_equal(False, one, yard_of(AB, {"p": ("line", "baa")}))
        self.check_equal(False, one, yard_of(AB, {**ONE, "q": ("line", "aab")}))

    def test_objects_that_are_no_sessions(self):
        for yard in (Yard(AB), yard_of(AB, ONE)):
            for thing in THINGS + (AB, str(yard), yard.names(), ONE, yard.history()):
                self.check_equal(False, yard, thing)


if __name__ == "__main__":
    unittest.main()
