"""Points [11], [17], [20]: the lines of a form in alphabetical order, crewstep/ranks.py."""

import itertools
import time
import unittest

from crewstep.errors import InvalidForm, InvalidPeople, InvalidRank, InvalidRoster, InvalidWord
from crewstep.ranks import count_beginning, first_badges, line_at, next_line, rank_of
from crewstep.series import class_size
from tests.checks import (
    A2B2, AB, LONG, SMALL, THINGS, WRONG_LINES, CrewTest, class_by_hand, form_by_hand, lines_by_form,
    lines_of,
)

A2B2C0 = (("a", 2), ("b", 2), ("c", 0))
FOUR = (("p", 3), ("q", 2), ("r", 1), ("s", 5))
EACH_1 = (("a", 1), ("b", 1), ("c", 1), ("d", 1))
EMPTY = ((0, 0), "")

# By the number of badges: the length up to which all lines and all words are gone through.
LONGEST = (None, 12, 6, 4, 4)
LONGEST_WORDS = (None, 12, 5, 3, 3)

# Lines of twelve people whose classes are small enough to be listed.
LISTED = (
    (AB, "aabaabbaabbb"),
    (AB, "bbbbaaabbaaa"),
    (A2B2, "abababaababb"),
    ((("a", 3), ("b", 2)), "abaaabababab"),
    ((("a", 1), ("b", 0)), "abbbbbbabbba"),
    ((("a", 5), ("b", 1)), "aaaaabbaaaaa"),
    (A2B2C0, "acbcbaacabca"),
    ((("k", 3), ("m", 2), ("x", 4), ("z", 0)), "kkxkzmmzxxmx"),
    ((("p", 3), ("q", 2), ("r", 4), ("s", 5)), "rqqspppsrqss"),
)


class RanksTest(CrewTest):
    def check_class(self, roster, form, lines):
        """The lines, in alphabetical order, are those of the form."""
        for rank, line in enumerate(lines):
            self.check_same(rank_of(roster, line), rank)
            self.check_same(line_at(roster, form, rank), line)
            after = lines[rank + 1] if rank + 1 < len(lines) else None
            self.check_same(next_line(roster, line), after)
        for rank in (len(lines), len(lines) + 1, -1):
            with self.assertRaises(InvalidRank) as caught:
                line_at(roster, form, rank)
            self.check_same(caught.exception.rank, rank)
        first = [badge for badge, _ in roster if any(line.startswith(badge) for line in lines)]
        self.check_same(first_badges(roster, form), "".join(first))

    def check_beginnings(self, roster, form, lines, words):
        for word in words:
            expected = len([line for line in lines if line.startswith(word)])
            self.check_same(count_beginning(roster, form, word), expected)


class CountBeginningTest(RanksTest):
    def check_count(self, many, roster, form, word):
        self.check_returns(many, count_beginning, roster, form, word)
        self.check_returns(many, count_beginning, word=word, form=form, roster=roster)

    def test_the_examples(self):
        self.check_count(2, A2B2, ((2, 2), ""), "a")
        self.check_count(0, A2B2, ((2, 2), ""), "aba")

    def test_the_empty_word(self):
        self.check_count(4, A2B2, ((2, 2), ""), "")
        self.check_count(10, AB, ((4, 3), "bbb"), "")
        self.check_count(369600, EACH_1, ((3, 3, 3, 3), ""), "")
        for roster, line in LONG:
            form = form_by_hand(roster, line)
            self.check_count(class_size(roster, form), roster, form, "")

    def test_the_form_without_people(self):
        self.check_count(1, A2B2, EMPTY, "")
        for word in ("a", "b", "ab", "a" * 12):
            self.check_count(0, A2B2, EMPTY, word)

    def test_a_whole_line(self):
        for roster, line in LONG + ((AB, ""), (AB, "b"), (FOUR, "srqp")):
            self.check_count(1, roster, form_by_hand(roster, line), line)

    def test_a_whole_line_of_another_form(self):
        self.check_count(0, A2B2, ((2, 2), ""), "abab")
        self.check_count(0, A2B2, ((2, 2), "abab"), "baba")
        self.check_count(0, A2B2, ((6, 6), ""), "ab" * 6)
        self.check_count(1, A2B2, ((6, 6), "ab" * 6), "ab" * 6)

    def test_a_word_of_more_people_than_the_lines(self):
        self.check_count(0, A2B2, ((2, 2), ""), "aabba")
        self.check_count(0, A2B2, ((2, 2), ""), "a" * 12)
        self.check_count(0, A2B2, ((2, 2), ""), "aaa")

    def test_a_beginning_that_cannot_be_changed_any_more(self):
        self.check_count(0, AB, ((4, 3), "bbb"), "ab")
        self.check_count(6, AB, ((4, 3), "bbb"), "b")
        self.check_count(4, AB, ((4, 3), "bbb"), "a")
        self.check_count(3, AB, ((4, 3), "bbb"), "bb")

    def test_a_beginning_that_goes_beyond_the_core(self):
        self.check_count(2, A2B2, ((4, 2), ""), "ab")
        self.check_count(1, A2B2, ((4, 2), ""), "abaab")
        self.check_count(1, (("a", 3), ("b", 2)), ((3, 2), ""), "aab")
        self.check_count(1, (("a", 3), ("b", 2)), ((4, 2), "a"), "aabb")

    def test_all_words_and_all_small_lines(self):
        for roster, longest in SMALL:
            words = list(lines_of(roster, min(LONGEST_WORDS[len(roster)] + 1, 12)))
            for form, lines in lines_by_form(roster, min(longest, LONGEST_WORDS[len(roster)])).items():
                self.check_beginnings(roster, form, lines, words)

    def test_beginnings_of_lines_of_twelve_people(self):
        for roster, line in LISTED:
            form, lines = form_by_hand(roster, line), class_by_hand(roster, line)
            for many in range(13):
                found = sorted({one[:many] for one in lines})
                words = found[:12] + [word[:-1] + line[:1] for word in found[::7][:6]]
                self.check_beginnings(roster, form, lines, words)

    def test_the_word_is_checked_last(self):
        form = ((0, 0), "")
        for word, place in WRONG_LINES:
            with self.subTest(word=word):
                fields = {"place": place}
                self.check_raises(InvalidWord, fields, count_beginning, AB, form, word)
                self.check_raises(InvalidWord, fields, count_beginning, word=word, form=form, roster=AB)
        for thing in THINGS:
            if not isinstance(thing, str):
                self.check_raises(InvalidWord, {"place": None}, count_beginning, AB, form, thing)

    def test_the_roster_and_the_form_come_before_the_word(self):
        for word in ("a", "", "c", None, "a" * 13, ["a"]):
            self.check_roster_first(count_beginning, ((2, 2), ""), word)
            self.check_roster_first(count_beginning, None, word)
            self.check_form_next(count_beginning, word)
        self.check_raises(InvalidForm, {"part": "form"}, count_beginning, word=7, form=7, roster=AB)


class FirstBadgesTest(RanksTest):
    def check_first(self, badges, roster, form):
        self.check_returns(badges, first_badges, roster, form)
        self.check_returns(badges, first_badges, form=form, roster=roster)

    def test_the_example(self):
        self.check_first("ac", A2B2C0, ((2, 0, 1), "c"))

    def test_no_people_and_no_crews(self):
        for roster in ((("a", 0),), (("z", 1),), AB, A2B2, FOUR):
            self.check_first("", roster, ((0,) * len(roster), ""))
        self.check_first("b", A2B2, ((1, 2), "bab"))
        self.check_first("b", AB, ((0, 12), "b" * 12))

    def test_the_badges_of_all_crews_and_of_the_core(self):
        self.check_first("pqs", FOUR, ((3, 2, 0, 2), "ss"))
        self.check_first("pqrs", FOUR, ((3, 2, 1, 6), "s"))
        self.check_first("qr", FOUR, ((0, 3, 2, 1), "qs"))
        self.check_first("abcd", EACH_1, ((3, 3, 3, 3), ""))
        self.check_first("a", (("a", 5),), ((12,), "aa"))

    def test_the_errors(self):
        self.check_roster_first(first_badges, ((2, 2), ""))
        self.check_roster_first(first_badges, None)
        self.check_form_next(first_badges)
        self.check_raises(InvalidForm, {"part": "form"}, first_badges, form=7, roster=AB)


class RankTest(RanksTest):
    def check_rank(self, roster, line, rank):
        form = form_by_hand(roster, line)
        self.check_returns(rank, rank_of, roster, line)
        self.check_returns(rank, rank_of, line=line, roster=roster)
        self.check_returns(line, line_at, roster, form, rank)
        self.check_returns(line, line_at, rank=rank, form=form, roster=roster)

    def check_next(self, roster, line, after):
        self.check_returns(after, next_line, roster, line)
        self.check_returns(after, next_line, line=line, roster=roster)

    def test_the_examples(self):
        self.check_rank(A2B2, "baab", 2)
        self.check_rank(A2B2, "abba", 1)
        self.check_next(A2B2, "abba", "baab")

    def test_a_whole_class(self):
        lines = ["aabb", "abba", "baab", "bbaa"]
        for rank, line in enumerate(lines):
            self.check_rank(A2B2, line, rank)
            self.check_next(A2B2, line, (lines + [None])[rank + 1])

    def test_the_empty_line(self):
        for roster in ((("a", 0),), (("z", 1),), AB, A2B2, FOUR):
            self.check_rank(roster, "", 0)
            self.check_next(roster, "", None)

    def test_a_line_alone_in_its_class(self):
        for roster, line in (
            (AB, "b" * 12), (A2B2, "ab" * 6), (FOUR, "sspqpqsspqpp"), ((("a", 5),), "a" * 12), (AB, "a"),
        ):
            self.check_rank(roster, line, 0)
            self.check_next(roster, line, None)
            self.check_raises(InvalidRank, {"rank": 1}, line_at, roster, form_by_hand(roster, line), 1)

    def test_the_first_and_the_last_rank_of_twelve_people(self):
        self.check_rank(EACH_1, "aaabbbcccddd", 0)
        self.check_next(EACH_1, "aaabbbcccddd", "aaabbbccdcdd")
        self.check_rank(EACH_1, "dddcccbbbaaa", 369599)
        self.check_next(EACH_1, "dddcccbbbaaa", None)
        self.check_next(EACH_1, "dddcccbbabaa", "dddcccbbbaaa")
        self.check_rank(EACH_1, "adddcccbbbaa", 92399)
        self.check_next(EACH_1, "adddcccbbbaa", "baaabbcccddd")

    def test_lines_of_twelve_people(self):
        for roster, line in LONG:
            form, rank = form_by_hand(roster, line), rank_of(roster, line)
            self.check_rank(roster, line, rank)
            after = line_at(roster, form, rank + 1) if rank + 1 < class_size(roster, form) else None
            self.check_next(roster, line, after)

    def test_all_lines_of_some_classes_of_twelve_people(self):
        for roster, line in LISTED:
            lines = sorted(class_by_hand(roster, line))
            with self.subTest(roster=roster, line=line, many=len(lines)):
                self.assertGreater(len(lines), 4)
                self.check_class(roster, form_by_hand(roster, line), lines)

    def test_all_small_lines(self):
        for roster, longest in SMALL:
            longest = min(longest, LONGEST[len(roster)])
            with self.subTest(roster=roster):
                for form, lines in lines_by_form(roster, longest).items():
                    self.check_class(roster, form, lines)

    def test_twelve_people_without_delay(self):
        for sizes, line in itertools.product(
            ((1, 1, 1, 1), (2, 2, 2, 2), (1, 1, 1, 2), (1, 1, 2, 2), (1, 2, 2, 2), (1, 1, 1, 0), (5, 4, 3, 2)),
            ("dddcccbbbaaa", "ddccbbadcbaa", "abcdabcdabcd"),
        ):
            roster = tuple(zip("abcd", sizes))
            form = form_by_hand(roster, line)
            before = time.process_time()
            rank = rank_of(roster, line)
            line_at(roster, form, rank)
            next_line(roster, line)
            count_beginning(roster, form, line[:6])
            first_badges(roster, form)
            self.assertLess(time.process_time() - before, 2, (roster, line))

    def test_objects_that_are_no_ranks(self):
        form = ((2, 2), "")
        wrong = THINGS + (4, 5, -1, -4, 10 ** 29, -(10 ** 29), "0", (0,), [0], True, False, {0: 0})
        for rank in wrong:
            if isinstance(rank, bool) or rank not in (0, 1, 2):
                with self.subTest(rank=rank):
                    self.check_raises(InvalidRank, {"rank": rank}, line_at, A2B2, form, rank)
                    self.check_raises(InvalidRank, {"rank": rank}, line_at, rank=rank, form=form, roster=A2B2)

    def test_the_errors_of_the_lines(self):
        for function in (rank_of, next_line):
            self.check_roster_first(function, "a")
            self.check_roster_first(function, None)
            self.check_line_next(function)
            self.check_raises(InvalidRoster, {"entry": 0}, function, line=7, roster=(7,))
            self.check_raises(InvalidPeople, {"place": 1}, function, line="ac", roster=AB)

    def test_the_roster_and_the_form_come_before_the_rank(self):
        for rank in (0, 3, 4, -1, None, True, "0"):
            self.check_roster_first(line_at, ((2, 2), ""), rank)
            self.check_roster_first(line_at, None, rank)
            self.check_form_next(line_at, rank)
        self.check_raises(InvalidForm, {"part": "form"}, line_at, rank=None, form=7, roster=AB)


if __name__ == "__main__":
    unittest.main()
