"""Points [15], [16] for rings: crewstep/ringforms.py."""

import itertools
import unittest

from crewstep.errors import InvalidForm, InvalidPeople, InvalidRoster
from crewstep.people import turned
from crewstep.ringforms import (
    check_ring_form, is_ring_form, least_turn, ring_form_of, rings_alike, standard_ring,
)
from tests.checks import (
    A2B2, AB, LONG, SMALL, THINGS, WRONG_CORES, WRONG_COUNTS, CrewTest, lines_of, ring_class_by_hand,
    ring_form_after, ring_form_by_hand, ring_readings_by_hand, ring_steps_by_hand, small_rings,
    turn_by_hand,
)

A3B1C0 = (("a", 3), ("b", 1), ("c", 0))
A2B4 = (("a", 2), ("b", 4))
FOUR = (("p", 3), ("q", 2), ("r", 1), ("s", 5))
EACH_4 = (("a", 4), ("b", 4), ("c", 4), ("d", 0))

# Each form with its turn.
RIGHT = (
    (A2B2, ((3, 1), "ab", 1), 2),
    (A2B2, ((2, 2), "", 0), 1),
    (A2B2, ((6, 6), "", 0), 1),
    (A2B2, ((7, 5), "ababababab", 1), 2),
    (A2B2, ((6, 6), "abababababab", 1), 2),
    (A2B2, ((1, 0), "a", 0), 1),
    (AB, ((2, 3), "bbb", 0), 1),
    (AB, ((0, 12), "b" * 12, 0), 1),
    (AB, ((3, 4), "abbbb", 0), 1),
    (AB, ((3, 3), "abbb", 1), 2),
    (A2B4, ((2, 6), "abab", 1), 2),
    (A2B4, ((1, 5), "ab", 1), 2),
    (A2B4, ((2, 10), "abab", 1), 2),
    ((("a", 4), ("b", 0)), ((4, 8), "b" * 8, 0), 1),
    ((("a", 4), ("b", 0)), ((6, 2), "aabb", 3), 4),
    ((("a", 4), ("b", 0)), ((8, 4), "bbbb", 0), 1),
    ((("a", 4), ("b", 0)), ((8, 4), "aabbaabb", 3), 4),
    ((("a", 5), ("b", 5)), ((9, 1), "aaaab", 4), 5),
    ((("a", 0), ("b", 0)), ((6, 6), "ab" * 6, 1), 2),
    ((("a", 0), ("b", 0)), ((6, 6), "aabbab" * 2, 5), 6),
    ((("a", 0), ("b", 0)), ((6, 6), "a" * 6 + "b" * 6, 11), 12),
    ((("a", 3),), ((5,), "aa", 0), 1),
    ((("a", 3),), ((2,), "aa", 0), 1),
    ((("a", 1),), ((12,), "", 0), 1),
    (EACH_4, ((6, 1, 1, 0), "aabc", 3), 4),
    (EACH_4, ((5, 1, 1, 1), "abcd", 3), 4),
    (EACH_4, ((6, 2, 0, 0), "aabb", 3), 4),
    (FOUR, ((5, 3, 0, 4), "ppqpspqsqsps", 11), 12),
)

# Objects that are no tuples of three items.
NO_TRIPLES = tuple(thing for thing in THINGS if thing != (None,)) + (
    ((2, 1), "b"), ((2, 1), "b", 0, 0), ((2, 1), "b", 0, None), [(2, 1), "b", 0], "abc", (None, None),
    {0: (2, 1), 1: "b", 2: 0}, (None,) * 4,
)


def period_and_divisor_words():
    """Cores of equal parts, of one badge and of unequal parts, each as a ring of its own."""
    roster = (("a", 0), ("b", 0), ("c", 0))
    for ring in ("ab" * 6, "abc" * 4, "aabb" * 3, "aabbab" * 2, "a" * 12, "abcabb", "aab" * 4, "abcb" * 3):
        yield roster, ring


class CheckFormTest(CrewTest):
    def check_right(self, roster, form):
        self.check_returns(None, check_ring_form, roster, form)
        self.check_returns(None, check_ring_form, form=form, roster=roster)
        self.check_returns(True, is_ring_form, roster, form)
        self.check_returns(True, is_ring_form, thing=form, roster=roster)

    def check_wrong(self, part, roster, form):
        for function in (check_ring_form, standard_ring, least_turn, rings_alike):
            self.check_raises(InvalidForm, {"part": part}, function, roster, form)
            self.check_raises(InvalidForm, {"part": part}, function, form=form, roster=roster)
        self.check_returns(False, is_ring_form, roster, form)
        self.check_returns(False, is_ring_form, thing=form, roster=roster)

    def test_the_examples(self):
        self.check_wrong("core", A2B2, ((3, 1), "ba", 0))
        self.check_wrong("residue", A2B2, ((3, 1), "ab", 2))
        self.check_right(A2B2, ((3, 1), "ab", 1))

    def test_forms(self):
        for roster, form, _ in RIGHT:
            with self.subTest(roster=roster, form=form):
                self.check_right(roster, form)
                self.check_right(roster, form[:2] + (0,))

    def test_objects_that_are_no_tuples_of_three(self):
        for form in NO_TRIPLES:
            with self.subTest(form=form):
                self.check_wrong("form", A2B2, form)

    def test_wrong_counts(self):
        for counts in WRONG_COUNTS + ((0, 0),):
            with self.subTest(counts=counts):
                self.check_wrong("counts", A2B2, (counts, "b", 0))
                self.check_wrong("counts", A2B2, (counts, "", 0))

    def test_wrong_cores(self):
        for core in WRONG_CORES:
            with self.subTest(core=core):
                self.check_wrong("core", A2B2, ((4, 3), core, 0))

    def test_a_core_that_is_not_its_own_least_rotation(self):
        self.check_right(AB, ((1, 2), "abb", 0))
        self.check_wrong("core", AB, ((1, 2), "bab", 0))
        self.check_wrong("core", AB, ((1, 2), "bba", 0))
        self.check_wrong("core", FOUR, ((1, 1, 0, 1), "qsp", 0))
        self.check_wrong("core", (("a", 0), ("b", 0)), ((6, 6), "ba" * 6, 0))

    def test_a_core_with_a_valid_deletion_as_a_ring(self):
        self.check_wrong("core", A2B2, ((4, 1), "aa", 0))
        self.check_wrong("core", AB, ((2, 1), "aab", 0))
        self.check_wrong("core", A2B2, ((2, 1), "aba", 0))
        self.check_wrong("core", A2B2, ((2, 3), "ababb", 0))
        self.check_wrong("core", A2B2, ((1, 2), "abb", 0))
        self.check_wrong("core", (("a", 3), ("b", 2)), ((3, 1), "aaab", 0))
        self.check_wrong("core", (("a", 3), ("b", 3)), ((2, 3), "aabbb", 0))
        self.check_wrong("core", (("a", 0), ("b", 2)), ((2, 2), "aabb", 0))
        self.check_wrong("core", (("a", 0), ("b", 3)), ((1, 3), "abbb", 0))
        self.check_wrong("core", (("a", 1),), ((1,), "a", 0))
        self.check_wrong("core", (("a", 5),), ((5,), "aaaaa", 0))

    def test_a_core_that_is_smaller_than_a_crew(self):
        self.check_right((("a", 5),), ((4,), "aaaa", 0))
        self.check_right((("a", 2),), ((1,), "a", 0))
        self.check_right((("a", 3),), ((8,), "aa", 0))

    def test_people_who_make_no_whole_crews(self):
        self.check_wrong("core", (("a", 3),), ((5,), "a", 0))
        self.check_wrong("core", (("a", 3),), ((1,), "aa", 0))
        self.check_wrong("core", AB, ((2, 2), "b", 0))
        self.check_wrong("core", AB, ((2, 2), "", 0))
        self.check_wrong("core", AB, ((2, 2), "bbb", 0))
        self.check_wrong("core", A2B2, ((1, 1), "", 0))

    def test_letters_outside_of_the_roster(self):
        self.check_wrong("core", AB, ((0, 1), "bc", 0))
        self.check_wrong("core", AB, ((0, 1), "B", 0))
        self.check_wrong("core", AB, ((0, 1), "c", 0))

    def test_wrong_residues(self):
        for roster, form, turn in RIGHT:
            for residue in range(-2, 14):
                if 0 <= residue < turn:
                    self.check_right(roster, form[:2] + (residue,))
                else:
                    self.check_wrong("residue", roster, form[:2] + (residue,))

    def test_objects_that_are_no_residues(self):
        wrong = THINGS + (True, False, "0", (0,), [0], {0: 0}, 3, 10 ** 29)
        for residue in wrong:
            if isinstance(residue, bool) or residue not in (0, 1):
                with self.subTest(residue=residue):
                    self.check_wrong("residue", A2B2, ((3, 1), "ab", residue))
        for residue in (True, False, 1, None):
            self.check_wrong("residue", A2B2, ((2, 2), "", residue))

    def test_the_first_part_is_told(self):
        for core, residue in itertools.product((None, "c", "aa", "ba"), (0, None, -1, 7)):
            self.check_wrong("counts", A2B2, ((2, -1), core, residue))
            self.check_wrong("counts", A2B2, ((0, 0), core, residue))
            self.check_wrong("counts", A2B2, ([2, 1], core, residue))
            self.check_wrong("core", A2B2, ((3, 1), core, residue))
            self.check_wrong("form", A2B2, ((2, -1), core, residue, None))
        self.check_wrong("residue", A2B2, ((3, 1), "ab", None))

    def test_a_sum_of_twelve_and_of_thirteen(self):
        each_1 = (("a", 1), ("b", 1), ("c", 1), ("d", 1))
        self.check_right(each_1, ((3, 3, 3, 3), "", 0))
        self.check_wrong("counts", each_1, ((4, 3, 3, 3), "", 0))

    def test_exactly_the_forms_of_small_rings_are_forms(self):
        for roster, longest in ((A2B2, 6), (AB, 6), (A3B1C0, 4), ((("a", 3),), 8), ((("k", 1),), 4)):
            forms = {ring_form_by_hand(roster, ring) for ring in lines_of(roster, longest) if ring}
            for counts in itertools.product(range(longest + 1), repeat=len(roster)):
                if sum(counts) <= longest:
                    for core in lines_of(roster, sum(counts)):
                        for residue in range(longest + 1):
                            form = (counts, core, residue)
                            self.assertIs(is_ring_form(roster, form), form in forms, (roster, form))

    def test_the_roster_comes_first(self):
        for form in (None, ((3, 1), "ab", 0), ((3, 1), "ab", 2), ((), "", 0), []):
            for function in (check_ring_form, is_ring_form, standard_ring, least_turn, rings_alike):
                self.check_roster_first(function, form)
        for function in (check_ring_form, standard_ring, least_turn, rings_alike):
            self.check_raises(InvalidRoster, {"entry": 0}, function, form=7, roster=(7,))
        self.check_raises(InvalidRoster, {"entry": 0}, is_ring_form, thing=7, roster=(7,))


class FormOfTest(CrewTest):
    def check_form(self, roster, ring, form):
        self.check_returns(form, ring_form_of, roster, ring)
        self.check_returns(form, ring_form_of, ring=ring, roster=roster)

    def test_the_examples(self):
        self.check_form(A2B2, "aaab", ((3, 1), "ab", 0))
        self.check_form(A2B2, "aaba", ((3, 1), "ab", 1))

    def test_rings_of_one_and_of_two_people(self):
        self.check_form(AB, "b", ((0, 1), "b", 0))
        self.check_form((("a", 1), ("b", 1)), "b", ((0, 1), "", 0))
        self.check_form(A2B2, "aa", ((2, 0), "", 0))
        self.check_form(A2B2, "ab", ((1, 1), "ab", 0))
        self.check_form(A2B2, "ba", ((1, 1), "ab", 1))
        self.check_form((("a", 1), ("b", 0)), "ab", ((1, 1), "b", 0))
        self.check_form((("a", 1), ("b", 0)), "ba", ((1, 1), "b", 0))

    def test_rings_of_one_badge(self):
        for size in range(6):
            for many in range(1, 13):
                left = many % size if size else many
                self.check_form((("a", size),), "a" * many, ((many,), "a" * left, 0))

    def test_a_ring_without_crews_that_is_turned(self):
        for by in range(12):
            self.check_form((("a", 0), ("b", 0)), turned(AB, "a" * 6 + "b" * 6, by), ((6, 6), "aaaaaabbbbbb", by))
            self.check_form(A2B2, turned(A2B2, "ab" * 6, by), ((6, 6), "ab" * 6, by % 2))
        for by in range(4):
            self.check_form(AB, turned(AB, "abbb", by), ((1, 3), "abbb", by))

    def test_the_residue_is_that_of_the_least_rotation_and_not_of_the_first_place(self):
        self.check_form((("a", 4), ("b", 0)), "baaaaabb", ((5, 3), "abbb", 1))
        self.check_form((("a", 4), ("b", 0)), "bbaaaaaa", ((6, 2), "aabb", 2))
        self.check_form((("a", 4), ("b", 0)), "abbaaaaa", ((6, 2), "aabb", 3))
        self.check_form((("a", 4), ("b", 0)), "aaabbaaa", ((6, 2), "aabb", 1))

    def test_equal_parts_of_the_core(self):
        self.check_form(A2B4, "ababbbbb", ((2, 6), "abab", 0))
        self.check_form(A2B4, "babbbbba", ((2, 6), "abab", 1))
        self.check_form(A2B4, "bbbbabab", ((2, 6), "abab", 0))
        self.check_form(A2B4, "bababbbb", ((2, 6), "abab", 1))

    def test_all_readings_of_small_rings_leave_the_same(self):
        for roster, ring in small_rings():
            with self.subTest(roster=roster, ring=ring):
                form = ring_form_of(roster, ring)
                self.check_same(check_ring_form(roster, form), None)
                for left, (_, complete) in ring_readings_by_hand(roster, ring).items():
                    if complete:
                        self.check_same(ring_form_after(roster, ring, left), form)

    def test_no_step_changes_the_form(self):
        for roster, ring in itertools.chain(small_rings(), LONG):
            form = ring_form_of(roster, ring)
            for after in ring_steps_by_hand(roster, ring).values():
                self.check_same(ring_form_of(roster, after), form)

    def test_rings_with_equally_many_places_are_walked_into_one_another_if_the_forms_are_equal(self):
        for roster, longest in SMALL:
            classes = {}
            for ring in lines_of(roster, longest):
                if ring:
                    classes.setdefault(ring_form_of(roster, ring), set()).add(ring)
            for rings in classes.values():
                self.assertEqual(ring_class_by_hand(roster, min(rings)), rings)

    def test_rings_of_twelve_people_wherever_their_string_begins(self):
        for roster, ring in LONG:
            for by in range(12):
                around = turned(roster, ring, by)
                self.check_form(roster, around, ring_form_by_hand(roster, around))

    def test_the_errors(self):
        self.check_roster_first(ring_form_of, "a")
        self.check_roster_first(ring_form_of, None)
        self.check_ring_next(ring_form_of)
        self.check_raises(InvalidPeople, {"place": 1}, ring_form_of, ring="ac", roster=AB)


class StandardRingTest(CrewTest):
    def check_standard(self, ring, roster, form):
        self.check_returns(ring, standard_ring, roster, form)
        self.check_returns(ring, standard_ring, form=form, roster=roster)
        self.check_same(ring_form_of(roster, ring), form)

    def test_the_example(self):
        self.check_standard("aaba", A2B2, ((3, 1), "ab", 1))

    def test_the_residue_zero(self):
        self.check_standard("abaa", A2B2, ((3, 1), "ab", 0))
        self.check_standard("abab", A2B2, ((2, 2), "abab", 0))
        self.check_standard("bbbaa", AB, ((2, 3), "bbb", 0))

    def test_the_empty_core(self):
        self.check_standard("aaaabb", A2B2, ((4, 2), "", 0))
        self.check_standard("pppqqrsssss", FOUR, ((3, 2, 1, 5), "", 0))
        self.check_standard("a", (("a", 1),), ((1,), "", 0))

    def test_the_core_around_the_end_of_the_string(self):
        self.check_standard("aaaaaabbbbbb", (("a", 0), ("b", 0)), ((6, 6), "aaaaaabbbbbb", 0))
        self.check_standard("baaaaaabbbbb", (("a", 0), ("b", 0)), ((6, 6), "aaaaaabbbbbb", 1))
        self.check_standard("aaaaabbbbbba", (("a", 0), ("b", 0)), ((6, 6), "aaaaaabbbbbb", 11))

    def test_crews_behind_the_core_around_the_ring(self):
        self.check_standard("aabbaaaa", (("a", 4), ("b", 0)), ((6, 2), "aabb", 0))
        self.check_standard("aaabbaaa", (("a", 4), ("b", 0)), ((6, 2), "aabb", 1))
        self.check_standard("aaaabbaa", (("a", 4), ("b", 0)), ((6, 2), "aabb", 2))
        self.check_standard("aaaaabba", (("a", 4), ("b", 0)), ((6, 2), "aabb", 3))
        self.check_standard("aabcdaaa", EACH_4, ((5, 1, 1, 1), "abcd", 1))
        self.check_standard("aaaabcda", EACH_4, ((5, 1, 1, 1), "abcd", 3))
        two = (("a", 2), ("b", 2), ("c", 2), ("d", 0))
        self.check_standard("cabcdaabbc", two, ((3, 3, 3, 1), "abcd", 1))
        self.check_standard("badaaaabbb", EACH_4, ((5, 4, 0, 1), "ad", 1))

    def test_the_turn_minus_one(self):
        for roster, form, turn in RIGHT:
            self.check_returns(standard_ring(roster, form), standard_ring, form=form, roster=roster)
            for residue in (0, turn - 1):
                last = form[:2] + (residue,)
                self.check_same(ring_form_of(roster, standard_ring(roster, last)), last)

    def test_the_form_of_the_standard_ring_is_the_form(self):
        for roster, ring in itertools.chain(small_rings(), LONG):
            with self.subTest(roster=roster, ring=ring):
                counts, core, residue = form = ring_form_by_hand(roster, ring)
                behind = core
                for (badge, _), count in zip(roster, counts):
                    behind += badge * (count - core.count(badge))
                expected = list(ring)
                for by, person in enumerate(behind):
                    expected[(residue + by) % len(ring)] = person
                found = standard_ring(roster, form)
                self.check_same(found, "".join(expected))
                self.check_same(ring_form_of(roster, found), form)


class TurnTest(CrewTest):
    def check_turn(self, turn, roster, form):
        self.check_returns(turn, least_turn, roster, form)
        self.check_returns(turn, least_turn, form=form, roster=roster)
        alike = tuple(form[:2] + (residue,) for residue in range(turn))
        self.check_returns(alike, rings_alike, roster, form)
        self.check_returns(alike, rings_alike, form=form, roster=roster)

    def test_the_examples(self):
        self.check_turn(2, A2B2, ((3, 1), "ab", 0))
        self.check_returns(
            (((3, 1), "ab", 0), ((3, 1), "ab", 1)), rings_alike, A2B2, ((3, 1), "ab", 1))

    def test_turns(self):
        for roster, form, turn in RIGHT:
            with self.subTest(roster=roster, form=form):
                self.check_turn(turn, roster, form)

    def test_cores_of_equal_parts_without_crews(self):
        turns = []
        for roster, ring in period_and_divisor_words():
            form = ring_form_by_hand(roster, ring)
            turns.append(least_turn(roster, form))
            self.check_turn(turns[-1], roster, form)
        self.check_same(turns, [2, 3, 4, 6, 1, 6, 3, 4])

    def test_a_ring_can_be_walked_to_itself_turned_by_the_multiples_of_the_turn(self):
        for roster, ring in small_rings():
            with self.subTest(roster=roster, ring=ring):
                form = ring_form_by_hand(roster, ring)
                turn = least_turn(roster, form)
                self.assertEqual(turn, turn_by_hand(roster, form))
                found = ring_class_by_hand(roster, ring)
                for by in range(len(ring) + 1):
                    self.assertEqual(turned(roster, ring, by) in found, by % turn == 0)
                forms = sorted({ring_form_of(roster, turned(roster, ring, by)) for by in range(len(ring))})
                self.check_same(rings_alike(roster, form), tuple(forms))

    def test_rings_of_twelve_people(self):
        for roster, ring in LONG:
            form = ring_form_by_hand(roster, ring)
            self.check_turn(turn_by_hand(roster, form), roster, form)


if __name__ == "__main__":
    unittest.main()
