"""What several test files need: test cases for errors, objects of all kinds, and the document's
points done word for word."""

import copy
import itertools
import unittest

from crewstep.errors import InvalidForm, InvalidPeople, InvalidRoster

# Objects of every kind that a caller may pass.
THINGS = (
    None, True, False, 0, 1, 2, -1, 10 ** 29, -(10 ** 29),
    "", " ", "\n", "a", "ab", "A", "0", "~", "a" * 5000,
    (), [], {}, (None,), ["a"], {"a": 2}, ("a", 2), ["a", 2], (("a", 2),), [("a", 2)],
    (["a", 2],), ((("a", 2),),), {"a": ["b", {"c": (1, None)}]}, tuple(range(2000)),
)

# What check_roster answers: None, or the entry of InvalidRoster.
WRONG_ROSTERS = (
    (None, None),
    ((), None),
    ([("a", 2)], None),
    ("a2", None),
    ({"a": 2}, None),
    ((("a", 1), ("b", 1), ("c", 1), ("d", 1), ("e", 1)), None),
    ((("b", 2), ("a", 3)), 1),
    ((("a", 2), ("b", True)), 1),
)

# A roster, and what check_line answers for it: the place of InvalidPeople.
AB = (("a", 2), ("b", 0))
WRONG_LINES = (
    ("c", 0), ("abca", 2), ("a" * 11 + "c", 11), ("cab-", 0), (" ", 0), ("aB", 1), ("a\n", 1),
    ("a" * 13, None), ("c" * 13, None), ("a" * 5000, None),
    (None, None), (True, None), (0, None), (("a",), None), (["a"], None), ({"a": 1}, None),
)

# The objects that are not tuples.
NO_TUPLES = tuple(thing for thing in THINGS if not isinstance(thing, tuple))

A2B2 = (("a", 2), ("b", 2))

# Objects that are no forms of A2B2, by the part that is told.
NO_PAIRS = tuple(thing for thing in THINGS if thing != ("a", 2)) + (
    ((2, 1),), ((2, 1), "b", 0), ((2, 1), "b", None), [(2, 1), "b"], {(2, 1): "b"}, "ab",
    (None, None, None), {0: (2, 1), 1: "b"},
)
WRONG_COUNTS = NO_TUPLES + (
    (), (1,), (2, 1, 0), ((2, 1),), ("2", "1"), (2, -1), (-2, 1), (-1, 13), (-1, 0),
    (True, 2), (2, True), (2, False), (False, 0), (2, None), (None, 1), (2, "1"), (2, (1,)),
    ([2], 1), (2, {1: 1}), (13, 0), (0, 13), (7, 6), (10 ** 29, 0), (0, -(10 ** 29)),
    (10 ** 29, -(10 ** 29)), tuple(range(2000)),
)
# Objects that are no cores of A2B2 with the counts (4, 3).
WRONG_CORES = THINGS + (
    "ba", "aab", "aa", "bb", "abb", "bbb", "abba", "bababa", "bc", "B", "b ", "bab\n", "cb",
    ("b",), ["b"], {"b": 1}, (("b",),), "b" * 13, "ab" * 7,
)

# Objects that are no forms of A2B2, each with the part that is told.
WRONG_FORMS = (
    tuple((form, "form") for form in NO_PAIRS)
    + tuple(((counts, "b"), "counts") for counts in WRONG_COUNTS)
    + tuple((((4, 3), core), "core") for core in WRONG_CORES)
    + ((((2, -1), None), "counts"), (((2, -1), "b", None), "form"), (([4, 3], "ba"), "counts"))
)


class CrewTest(unittest.TestCase):
    def check_raises(self, kind, fields, function, *arguments, **named):
        """The call raises exactly this error with these fields, twice, and changes no argument."""
        before = copy.deepcopy((arguments, named))
        for _ in range(2):
            with self.assertRaises(kind) as caught:
                function(*arguments, **named)
            self.assertIs(type(caught.exception), kind)
            self.check_same(vars(caught.exception), fields)
        self.check_same((arguments, named), before)

    def check_returns(self, result, function, *arguments, **named):
        """The call returns exactly this result, twice, and changes no argument."""
        before = copy.deepcopy((arguments, named))
        for _ in range(2):
            self.check_same(function(*arguments, **named), result)
        self.check_same((arguments, named), before)

    def check_same(self, found, expected):
        # 1 == True in Python, so the written forms are compared, too.
        self.assertEqual(found, expected)
        self.assertEqual(repr(found), repr(expected))

    def check_roster_first(self, function, *others):
        """The function raises InvalidRoster, whatever the other arguments are."""
        for roster, entry in WRONG_ROSTERS:
            with self.subTest(roster=roster):
                self.check_raises(InvalidRoster, {"entry": entry}, function, roster, *others)

    def check_line_next(self, function, *others):
        """The function with a roster and a line raises InvalidPeople, whatever stands behind."""
        for line, place in WRONG_LINES:
            with self.subTest(line=line):
                self.check_raises(InvalidPeople, {"place": place}, function, AB, line, *others)

    def check_form_next(self, function, *others):
        """The function with a roster and a form raises InvalidForm, whatever stands behind."""
        for form, part in WRONG_FORMS:
            with self.subTest(form=form):
                self.check_raises(InvalidForm, {"part": part}, function, A2B2, form, *others)

    def check_goal_last(self, function):
        """The function with a roster, a line and a goal raises InvalidPeople for the goal."""
        for goal, place in WRONG_LINES:
            for line in ("", "ab", "b" * 12):
                fields = {"place": place}
                self.check_raises(InvalidPeople, fields, function, AB, line, goal)
        self.check_raises(InvalidPeople, {"place": 1}, function, AB, "ac", "aac")
        self.check_raises(InvalidPeople, {"place": 2}, function, AB, "aa", "aac")


# Rosters of one to four badges with sizes from 0 to 5, each with a length of lines up to which
# all lines of the roster are gone through.
SMALL = (
    ((("a", 0),), 6),
    ((("a", 1),), 6),
    ((("a", 3),), 12),
    ((("a", 5),), 12),
    ((("a", 2), ("b", 0)), 7),
    ((("a", 2), ("b", 2)), 7),
    ((("a", 1), ("b", 3)), 6),
    ((("c", 3), ("k", 2)), 7),
    ((("a", 1), ("b", 1)), 5),
    ((("a", 2), ("b", 0), ("c", 1)), 5),
    ((("b", 2), ("m", 2), ("z", 2)), 5),
    ((("a", 1), ("b", 2), ("c", 3), ("d", 0)), 4),
    ((("e", 2), ("f", 2), ("g", 5), ("h", 4)), 4),
)

# Lines of 12 people, and the reverse of each.
LONG = tuple(
    (roster, line[::step])
    for roster, lines in (
        ((("a", 2), ("b", 2)), ("aabbaabbaabb", "aaaaaabbbbbb", "abbaabbaabba", "babaabaabbab")),
        ((("a", 1), ("b", 1)), ("abababababab", "aaaaaaaaaaaa")),
        ((("a", 1), ("b", 0)), ("abababababab", "babbbbaabbbb")),
        ((("a", 5), ("b", 1)), ("aaaaabbaaaaa", "abaaaaabaaab")),
        ((("a", 0),), ("aaaaaaaaaaaa",)),
        ((("a", 5),), ("aaaaaaaaaaaa",)),
        ((("a", 2), ("b", 3), ("c", 1), ("d", 0)), ("abbcbadaacad", "dcbabbaacbbb")),
        ((("p", 3), ("q", 2), ("r", 4), ("s", 5)), ("pqrsssssrrrq", "sprrrrppqqss")),
    )
    for line in lines
    for step in (1, -1)
)


def lines_of(roster, longest):
    """All lines of the roster with at most that many people."""
    badges = [badge for badge, _ in roster]
    for many in range(longest + 1):
        for people in itertools.product(badges, repeat=many):
            yield "".join(people)


def small_lines():
    """Each roster of SMALL with each of its lines."""
    for roster, longest in SMALL:
        for line in lines_of(roster, longest):
            yield roster, line


def crews_by_hand(roster, line):
    """Point [7], word for word: the places at which a crew stands."""
    found = []
    for place in range(len(line)):
        for badge, size in roster:
            places = range(place, place + size)
            if size >= 1 and all(p < len(line) and line[p] == badge for p in places):
                found.append(place)
    return found


def steps_by_hand(roster, line):
    """Point [8], word for word: each possible step with the line after it."""
    found = {}
    for place in crews_by_hand(roster, line):
        size = dict(roster)[line[place]]
        for side, beside, there in ((1, place + size, place), (-1, place - 1, place + size - 1)):
            if 0 <= beside < len(line) and line[beside] != line[place]:
                others = list(line)
                neighbour = others.pop(beside)
                others.insert(there, neighbour)
                found[place, side] = "".join(others)
    return found


def class_by_hand(roster, line):
    """Point [9]: all lines to which the line can be walked."""
    found = {line}
    front = [line]
    while front:
        for other in steps_by_hand(roster, front.pop()).values():
            if other not in found:
                found.add(other)
                front.append(other)
    return found


def is_valid_by_hand(roster, line, left, deletion):
    """Point [10], word for word, for a tuple of integers and the set of places that are left."""
    if not deletion or not set(deletion) <= left or sorted(set(deletion)) != list(deletion):
        return False
    between = [p for p in left if deletion[0] <= p <= deletion[-1]]
    people = {line[place] for place in deletion}
    return people == {line[deletion[0]]} and len(deletion) == len(between) == dict(roster)[people.pop()]


def deletions_by_hand(roster, line, left):
    """All deletions that are valid when these places are left."""
    return [
        deletion
        for size in sorted({size for _, size in roster})
        for deletion in itertools.combinations(sorted(left), size)
        if is_valid_by_hand(roster, line, left, deletion)
    ]


def readings_by_hand(roster, line):
    """For each set of places that a reading can leave: a reading, and whether it is complete."""
    found = {}
    front = [()]
    while front:
        reading = front.pop()
        left = frozenset(range(len(line))).difference(*reading)
        if left not in found:
            more = deletions_by_hand(roster, line, left)
            found[left] = (reading, not more)
            front.extend(reading + (deletion,) for deletion in more)
    return found


def core_by_hand(roster, line):
    """Point [11] by another way than the stack: take out the last crew as long as there is one."""
    while crews := crews_by_hand(roster, line):
        line = line[:crews[-1]] + line[crews[-1] + dict(roster)[line[crews[-1]]]:]
    return line


def form_by_hand(roster, line):
    """Point [14]: the counts and the core."""
    return (tuple(line.count(badge) for badge, _ in roster), core_by_hand(roster, line))


def lines_by_form(roster, longest):
    """For each form of a line with at most that many people, all its lines in alphabetical order."""
    found = {}
    for line in lines_of(roster, longest):
        found.setdefault(form_by_hand(roster, line), []).append(line)
    return {form: sorted(lines) for form, lines in found.items()}
