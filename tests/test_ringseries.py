"""Points [12], [13], [15], [17], [19]: crewstep/ringseries.py."""

import collections
import itertools
import math
import time
import unittest

from crewstep.errors import InvalidForm, InvalidRoster
from crewstep.people import turned
from crewstep.ringforms import ring_form_of
from crewstep.ringseries import ring_class_size
from tests.checks import (
    A2B2, AB, LONG, SMALL, WRONG_CORES, WRONG_COUNTS, CrewTest, lines_of, ring_class_by_hand,
    ring_form_by_hand,
)
from tests.test_ringforms import NO_TRIPLES

NONE = (("a", 0), ("b", 0))
A3B3 = (("a", 3), ("b", 3))
A2B4 = (("a", 2), ("b", 4))
FOUR = (("p", 3), ("q", 2), ("r", 1), ("s", 5))
EACH_1 = (("a", 1), ("b", 1), ("c", 1), ("d", 1))
EACH_2 = (("a", 2), ("b", 2), ("c", 2), ("d", 2))


def arrangements(counts):
    """The number of all strings with these counts."""
    found = math.factorial(sum(counts))
    for count in counts:
        found //= math.factorial(count)
    return found


class RingClassSizeTest(CrewTest):
    def check_size(self, size, roster, form):
        self.check_returns(size, ring_class_size, roster, form)
        self.check_returns(size, ring_class_size, form=form, roster=roster)

    def check_class(self, roster, ring):
        """The size of the class of the ring is the number of rings in a listing."""
        form = ring_form_by_hand(roster, ring)
        self.check_size(len(ring_class_by_hand(roster, ring)), roster, form)

    def test_the_examples(self):
        self.check_size(2, A2B2, ((3, 1), "ab", 0))
        self.check_size(10, A2B2, ((3, 2), "a", 0))

    def test_the_empty_core(self):
        self.check_size(1, (("a", 1),), ((1,), "", 0))
        self.check_size(1, (("a", 5),), ((10,), "", 0))
        self.check_size(4, A2B2, ((2, 2), "", 0))
        self.check_class(A2B2, "abba")
        self.check_class((("a", 3), ("b", 2)), "baaabbb")
        self.check_class((("a", 2), ("b", 4)), "bbaabbaa")
        self.check_class(FOUR, "pqqpps")

    def test_crews_of_one_person_only(self):
        self.check_size(arrangements((6, 6)), EACH_1[:2], ((6, 6), "", 0))
        self.check_size(arrangements((4, 4, 4)), EACH_1[:3], ((4, 4, 4), "", 0))
        self.check_size(arrangements((3, 3, 3, 3)), EACH_1, ((3, 3, 3, 3), "", 0))
        self.check_size(arrangements((9, 1, 1, 1)), EACH_1, ((9, 1, 1, 1), "", 0))

    def test_no_crews(self):
        for ring in ("aabb", "abab", "aababb", "a" * 6 + "b" * 6, "ab" * 6, "b" * 12, "a"):
            for by in range(len(ring)):
                self.check_size(1, NONE, ring_form_by_hand(NONE, turned(NONE, ring, by)))

    def test_a_core_of_several_badges(self):
        self.check_size(14, A3B3, ((5, 2), "aabb", 0))
        self.check_class(A3B3, "aaaaabb")
        self.check_class((("a", 3), ("b", 1), ("c", 0)), "aacbaaa")
        self.check_class((("a", 5), ("b", 5)), "aaabaaaab")
        self.check_class((("a", 2), ("b", 2), ("c", 2)), "abccbabc")

    def test_a_core_of_several_badges_and_several_equal_parts(self):
        for residue in (0, 1):
            self.check_size(4, A2B4, ((2, 6), "abab", residue))
            self.check_size(16, A2B2, ((4, 4), "abab", residue))
            self.check_size(1, A2B2, ((4, 4), "abababab", residue))
        self.check_class(A2B4, "ababbbbb")
        self.check_class(A2B4, "babbbbba")
        self.check_class((("a", 4), ("b", 0)), "aabbaaaaaabb")
        self.check_class((("a", 3), ("b", 3), ("c", 0)), "abcbbbabcaaa")
        self.check_class((("a", 3), ("b", 0), ("c", 0)), "bcabcabcaaaa")

    def test_a_core_of_one_badge(self):
        self.check_size(10, A2B2, ((3, 2), "a", 0))
        self.check_size(21, A2B2, ((5, 2), "a", 0))
        self.check_class(A2B2, "bbaaaaa")
        self.check_class(A3B3, "aaabbbaa")
        self.check_class((("a", 3), ("b", 2)), "bbaaaaaaaa")
        self.check_class((("a", 5), ("b", 2)), "aaabbaabbaaa")
        self.check_class((("a", 4), ("b", 1), ("c", 2)), "aaacbcaaa")

    def test_a_core_of_one_badge_of_size_zero(self):
        self.check_size(30, AB, ((6, 3), "bbb", 0))
        for size in range(1, 6):
            for others in range(1, 13):
                for crews in range((12 - others) // size + 1):
                    # Each of the crews stands behind one of the others, whose first is anywhere.
                    many = crews * size + others
                    expected = many * math.comb(crews + others - 1, crews) // others
                    form = ((crews * size, others), "b" * others, 0)
                    self.check_size(expected, (("a", size), ("b", 0)), form)

    def test_rosters_of_one_badge(self):
        for size, many in itertools.product(range(6), range(1, 13)):
            core = "a" * (many % size if size else many)
            self.check_size(1, (("a", size),), ((many,), core, 0))

    def test_all_small_rings(self):
        for roster, longest in SMALL:
            found = collections.Counter(ring_form_by_hand(roster, ring) for ring in lines_of(roster, longest) if ring)
            for form, many in found.items():
                self.check_same(ring_class_size(roster, form), many)

    def test_the_ring_and_all_rings_to_which_it_can_be_walked(self):
        for roster, longest in SMALL:
            left = {ring for ring in lines_of(roster, min(longest, 6)) if ring}
            while left:
                reached = ring_class_by_hand(roster, min(left))
                form = ring_form_by_hand(roster, min(left))
                self.check_same(ring_class_size(roster, form), len(reached))
                left -= reached

    def test_all_rings_of_twelve_people_and_two_badges(self):
        for roster in (A2B4, (("a", 3), ("b", 2))):
            found = collections.Counter(
                ring_form_of(roster, "".join(people)) for people in itertools.product("ab", repeat=12))
            for form, many in found.items():
                self.check_same(ring_class_size(roster, form), many)

    def test_rings_of_twelve_people(self):
        for roster, ring in LONG:
            form = ring_form_by_hand(roster, ring)
            if ring_class_size(roster, form) <= 2000:
                self.check_class(roster, ring)

    def test_twelve_people_without_delay(self):
        for roster, form in (
            (EACH_1, ((3, 3, 3, 3), "", 0)),
            (EACH_1, ((6, 2, 2, 2), "", 0)),
            (EACH_2, ((4, 4, 2, 2), "", 0)),
            (EACH_2, ((3, 3, 3, 3), "abcd", 1)),
            (EACH_1[:3] + (("d", 2),), ((3, 3, 3, 3), "d", 0)),
            (EACH_1[:3] + (("d", 2),), ((2, 2, 1, 7), "d", 0)),
        ):
            before = time.process_time()
            ring_class_size(roster, form)
            self.assertLess(time.process_time() - before, 1)


class WrongFormTest(CrewTest):
    def check_wrong(self, part, form):
        self.check_raises(InvalidForm, {"part": part}, ring_class_size, A2B2, form)
        self.check_raises(InvalidForm, {"part": part}, ring_class_size, form=form, roster=A2B2)

    def test_objects_that_are_no_tuples_of_three(self):
        for form in NO_TRIPLES:
            self.check_wrong("form", form)

    def test_wrong_counts(self):
        for counts in WRONG_COUNTS + ((0, 0),):
            self.check_wrong("counts", (counts, "b", 0))
            self.check_wrong("counts", (counts, None, None))

    def test_wrong_cores(self):
        for core in WRONG_CORES + ("ba", "bab"):
            self.check_wrong("core", ((4, 3), core, 0))
            self.check_wrong("core", ((4, 3), core, None))

    def test_wrong_residues(self):
        for residue in (2, -1, 10 ** 29, True, False, None, "0", (0,), [0], {0: 0}):
            self.check_wrong("residue", ((3, 1), "ab", residue))
        self.check_wrong("residue", ((2, 2), "", 1))
        self.check_wrong("residue", ((3, 2), "a", 1))

    def test_the_roster_comes_first(self):
        for form in (None, ((3, 1), "ab", 0), ((3, 1), "ab", 2), ((), "", 0)):
            self.check_roster_first(ring_class_size, form)
        self.check_raises(InvalidRoster, {"entry": 0}, ring_class_size, form=7, roster=(7,))


if __name__ == "__main__":
    unittest.main()
