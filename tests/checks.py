"""What several test files need: test cases for errors, objects of all kinds, and the document's
points done word for word."""

import copy
import itertools
import unittest

from crewstep.errors import InvalidForm, InvalidPeople, InvalidRoster, InvalidWalk

# Objects of every kind that a caller may pass.
THINGS = (
    None, True, False, 0, 1, 2, -1, 10 ** 29, -(10 ** 29),
    "", " ", "\n", "a", "ab", "A", "0", "~", "a" * 5000,
    (), [], {}, (None,), ["a"], {"a": 2}, ("a", 2), ["a", 2], (("a", 2),), [("a", 2)],
    (["a", 2],), ((("a", 2),),), {"a": ["b", {"c": (1, None)}]}, tuple(range(2000)),
)

# What check_roster answers: None, or the entry of InvalidRoster.
WRONG_ROSTERS = (
    (None, None),
    ((), None),
    ([("a", 2)], None),
    ("a2", None),
    ({"a": 2}, None),
    ((("a", 1), ("b", 1), ("c", 1), ("d", 1), ("e", 1)), None),
    ((("b", 2), ("a", 3)), 1),
    ((("a", 2), ("b", True)), 1),
)

# A roster, and what check_line answers for it: the place of InvalidPeople.
AB = (("a", 2), ("b", 0))
WRONG_LINES = (
    ("c", 0), ("abca", 2), ("a" * 11 + "c", 11), ("cab-", 0), (" ", 0), ("aB", 1), ("a\n", 1),
    ("a" * 13, None), ("c" * 13, None), ("a" * 5000, None),
    (None, None), (True, None), (0, None), (("a",), None), (["a"], None), ({"a": 1}, None),
)

# The objects that are not tuples.
NO_TUPLES = tuple(thing for thing in THINGS if not isinstance(thing, tuple))

# What is no step at whatever index of a walk it stands.
WRONG_STEPS = NO_TUPLES + (
    (), (0,), (0, 1, 1), (0, 1, None), [0, 1], ((0, 1),), "01", {0: 1}, (None, None),
    (-1, 1), (12, 1), (12, -1), (10 ** 29, 1), (-(10 ** 29), 1), (True, 1), (False, 1), (None, 1),
    ("0", 1), ((0,), 1), ([0], 1), ({0: 1}, 1),
    (0, 0), (0, 2), (0, -2), (0, 10 ** 29), (0, True), (0, False), (0, None), (0, "1"), (0, ">"),
    (0, (1,)), (0, [1]), (0, {1: 1}), (1, 11),
)

A2B2 = (("a", 2), ("b", 2))

# Objects that are no forms of A2B2, by the part that is told.
NO_PAIRS = tuple(thing for thing in THINGS if thing != ("a", 2)) + (
    ((2, 1),), ((2, 1), "b", 0), ((2, 1), "b", None), [(2, 1), "b"], {(2, 1): "b"}, "ab",
    (None, None, None), {0: (2, 1), 1: "b"},
)
WRONG_COUNTS = NO_TUPLES + (
    (), (1,), (2, 1, 0), ((2, 1),), ("2", "1"), (2, -1), (-2, 1), (-1, 13), (-1, 0),
    (True, 2), (2, True), (2, False), (False, 0), (2, None), (None, 1), (2, "1"), (2, (1,)),
    ([2], 1), (2, {1: 1}), (13, 0), (0, 13), (7, 6), (10 ** 29, 0), (0, -(10 ** 29)),
    (10 ** 29, -(10 ** 29)), tuple(range(2000)),
)
# Objects that are no cores of A2B2 with the counts (4, 3).
WRONG_CORES = THINGS + (
    "ba", "aab", "aa", "bb", "abb", "bbb", "abba", "bababa", "bc", "B", "b ", "bab\n", "cb",
    ("b",), ["b"], {"b": 1}, (("b",),), "b" * 13, "ab" * 7,
)

# Objects that are no forms of A2B2, each with the part that is told.
WRONG_FORMS = (
    tuple((form, "form") for form in NO_PAIRS)
    + tuple(((counts, "b"), "counts") for counts in WRONG_COUNTS)
    + tuple((((4, 3), core), "core") for core in WRONG_CORES)
    + ((((2, -1), None), "counts"), (((2, -1), "b", None), "form"), (([4, 3], "ba"), "counts"))
)


class CrewTest(unittest.TestCase):
    def check_raises(self, kind, fields, function, *arguments, **named):
        """The call raises exactly this error with these fields, twice, and changes no argument."""
        before = copy.deepcopy((arguments, named))
        for _ in range(2):
            with self.assertRaises(kind) as caught:
                function(*arguments, **named)
            self.assertIs(type(caught.exception), kind)
            self.check_same(vars(caught.exception), fields)
        self.check_same((arguments, named), before)

    def check_returns(self, result, function, *arguments, **named):
        """The call returns exactly this result, twice, and changes no argument."""
        before = copy.deepcopy((arguments, named))
        for _ in range(2):
            self.check_same(function(*arguments, **named), result)
        self.check_same((arguments, named), before)

    def check_same(self, found, expected):
        # 1 == True in Python, so the written forms are compared, too.
        self.assertEqual(found, expected)
        self.assertEqual(repr(found), repr(expected))

    def check_roster_first(self, function, *others):
        """The function raises InvalidRoster, whatever the other arguments are."""
        for roster, entry in WRONG_ROSTERS:
            with self.subTest(roster=roster):
                self.check_raises(InvalidRoster, {"entry": entry}, function, roster, *others)

    def check_line_next(self, function, *others):
        """The function with a roster and a line raises InvalidPeople, whatever stands behind."""
        for line, place in WRONG_LINES:
            with self.subTest(line=line):
                self.check_raises(InvalidPeople, {"place": place}, function, AB, line, *others)

    def check_ring_next(self, function, *others):
        """The function with a roster and a ring raises InvalidPeople, whatever stands behind."""
        self.check_line_next(function, *others)
        self.check_raises(InvalidPeople, {"place": None}, function, AB, "", *others)

    def check_form_next(self, function, *others):
        """The function with a roster and a form raises InvalidForm, whatever stands behind."""
        for form, part in WRONG_FORMS:
            with self.subTest(form=form):
                self.check_raises(InvalidForm, {"part": part}, function, A2B2, form, *others)

    def check_ring_goal_last(self, function):
        """The function with a roster, a ring and a goal raises InvalidPeople for the goal."""
        self.check_goal_last(function, ("a", "ab", "b" * 12))
        self.check_raises(InvalidPeople, {"place": None}, function, AB, "ab", "")

    def check_goal_last(self, function, lines=("", "ab", "b" * 12)):
        """The function with a roster, a line and a goal raises InvalidPeople for the goal."""
        for goal, place in WRONG_LINES:
            for line in lines:
                fields = {"place": place}
                self.check_raises(InvalidPeople, fields, function, AB, line, goal)
        self.check_raises(InvalidPeople, {"place": 1}, function, AB, "ac", "aac")
        self.check_raises(InvalidPeople, {"place": 2}, function, AB, "aa", "aac")


class WalkChecks:
    """What holds in the same way for walks of lines and of rings: a part of a test case.

    Each of the functions in walks takes a roster, a line or ring with the name in people, and a walk.
    """

    def check_wrong(self, kind, index, roster, people, walk):
        named = {"walk": walk, self.people: people, "roster": roster}
        for function in self.walks:
            self.check_raises(kind, {"index": index}, function, roster, people, walk)
            self.check_raises(kind, {"index": index}, function, **named)

    def test_more_than_a_thousand_steps(self):
        for many in (1001, 1002, 2000):
            walk = (((0, 1), (1, -1)) * 1000)[:many]
            self.check_wrong(InvalidWalk, None, AB, "aab", walk)
            self.check_wrong(InvalidWalk, None, AB, "aab", (None,) * many)

    def test_objects_that_are_no_tuples(self):
        for walk in NO_TUPLES + ([(0, 1)], {(0, 1): 1}, "0>"):
            with self.subTest(walk=walk):
                self.check_wrong(InvalidWalk, None, AB, "aab", walk)

    def test_objects_that_are_no_steps(self):
        for item in WRONG_STEPS:
            with self.subTest(item=item):
                self.check_wrong(InvalidWalk, 0, AB, "aab", (item,))
                self.check_wrong(InvalidWalk, 1, AB, "aab", ((0, 1), item))
                self.check_wrong(InvalidWalk, 2, AB, "aab", ((0, 1), (1, -1), item, None))

    def test_the_roster_comes_first_and_the_people_next(self):
        for function in self.walks:
            for walk in ((), None, [], ((0, 0),), ((0, 1),), (None,) * 1001):
                self.check_roster_first(function, "c", walk)
                self.check_line_next(function, walk)
            named = {"walk": 7, self.people: 7}
            self.check_raises(InvalidRoster, {"entry": 0}, function, roster=(7,), **named)
            self.check_raises(InvalidPeople, {"place": None}, function, roster=AB, **named)


# Rosters of one to four badges with sizes from 0 to 5, each with a length of lines up to which
# all lines of the roster are gone through.
SMALL = (
    ((("a", 0),), 6),
    ((("a", 1),), 6),
    ((("a", 3),), 12),
    ((("a", 5),), 12),
    ((("a", 2), ("b", 0)), 7),
    ((("a", 2), ("b", 2)), 7),
    ((("a", 1), ("b", 3)), 6),
    ((("c", 3), ("k", 2)), 7),
    ((("a", 1), ("b", 1)), 5),
    ((("a", 2), ("b", 0), ("c", 1)), 5),
    ((("b", 2), ("m", 2), ("z", 2)), 5),
    ((("a", 1), ("b", 2), ("c", 3), ("d", 0)), 4),
    ((("e", 2), ("f", 2), ("g", 5), ("h", 4)), 4),
)

# Lines of 12 people, and the reverse of each.
LONG = tuple(
    (roster, line[::step])
    for roster, lines in (
        ((("a", 2), ("b", 2)), ("aabbaabbaabb", "aaaaaabbbbbb", "abbaabbaabba", "babaabaabbab")),
        ((("a", 1), ("b", 1)), ("abababababab", "aaaaaaaaaaaa")),
        ((("a", 1), ("b", 0)), ("abababababab", "babbbbaabbbb")),
        ((("a", 5), ("b", 1)), ("aaaaabbaaaaa", "abaaaaabaaab")),
        ((("a", 0),), ("aaaaaaaaaaaa",)),
        ((("a", 5),), ("aaaaaaaaaaaa",)),
        ((("a", 2), ("b", 3), ("c", 1), ("d", 0)), ("abbcbadaacad", "dcbabbaacbbb")),
        ((("p", 3), ("q", 2), ("r", 4), ("s", 5)), ("pqrsssssrrrq", "sprrrrppqqss")),
    )
    for line in lines
    for step in (1, -1)
)


def lines_of(roster, longest):
    """All lines of the roster with at most that many people."""
    badges = [badge for badge, _ in roster]
    for many in range(longest + 1):
        for people in itertools.product(badges, repeat=many):
            yield "".join(people)


def small_lines():
    """Each roster of SMALL with each of its lines."""
    for roster, longest in SMALL:
        for line in lines_of(roster, longest):
            yield roster, line


def crews_by_hand(roster, line):
    """Point [7], word for word: the places at which a crew stands."""
    found = []
    for place in range(len(line)):
        for badge, size in roster:
            places = range(place, place + size)
            if size >= 1 and all(p < len(line) and line[p] == badge for p in places):
                found.append(place)
    return found


def steps_by_hand(roster, line):
    """Point [8], word for word: each possible step with the line after it."""
    found = {}
    for place in crews_by_hand(roster, line):
        size = dict(roster)[line[place]]
        for side, beside, there in ((1, place + size, place), (-1, place - 1, place + size - 1)):
            if 0 <= beside < len(line) and line[beside] != line[place]:
                others = list(line)
                neighbour = others.pop(beside)
                others.insert(there, neighbour)
                found[place, side] = "".join(others)
    return found


def class_by_hand(roster, line):
    """Point [9]: all lines to which the line can be walked."""
    found = {line}
    front = [line]
    while front:
        for other in steps_by_hand(roster, front.pop()).values():
            if other not in found:
                found.add(other)
                front.append(other)
    return found


def is_valid_by_hand(roster, line, left, deletion):
    """Point [10], word for word, for a tuple of integers and the set of places that are left."""
    if not deletion or not set(deletion) <= left or sorted(set(deletion)) != list(deletion):
        return False
    between = [p for p in left if deletion[0] <= p <= deletion[-1]]
    people = {line[place] for place in deletion}
    return people == {line[deletion[0]]} and len(deletion) == len(between) == dict(roster)[people.pop()]


def deletions_by_hand(roster, line, left):
    """All deletions that are valid when these places are left."""
    return [
        deletion
        for size in sorted({size for _, size in roster})
        for deletion in itertools.combinations(sorted(left), size)
        if is_valid_by_hand(roster, line, left, deletion)
    ]


def readings_by_hand(roster, line):
    """For each set of places that a reading can leave: a reading, and whether it is complete."""
    found = {}
    front = [()]
    while front:
        reading = front.pop()
        left = frozenset(range(len(line))).difference(*reading)
        if left not in found:
            more = deletions_by_hand(roster, line, left)
            found[left] = (reading, not more)
            front.extend(reading + (deletion,) for deletion in more)
    return found


def core_by_hand(roster, line):
    """Point [11] by another way than the stack: take out the last crew as long as there is one."""
    while crews := crews_by_hand(roster, line):
        line = line[:crews[-1]] + line[crews[-1] + dict(roster)[line[crews[-1]]]:]
    return line


def form_by_hand(roster, line):
    """Point [14]: the counts and the core."""
    return (tuple(line.count(badge) for badge, _ in roster), core_by_hand(roster, line))


def lines_by_form(roster, longest):
    """For each form of a line with at most that many people, all its lines in alphabetical order."""
    found = {}
    for line in lines_of(roster, longest):
        found.setdefault(form_by_hand(roster, line), []).append(line)
    return {form: sorted(lines) for form, lines in found.items()}


def small_rings():
    """Each roster of SMALL with each of its rings."""
    for roster, line in small_lines():
        if line:
            yield roster, line


def rotations_of(word):
    """The word and all its rotations, each once for each letter."""
    return [word[by:] + word[:by] for by in range(len(word))]


def ring_crews_by_hand(roster, ring):
    """Point [7], word for word: the places of a ring at which a crew stands."""
    found = []
    for place in range(len(ring)):
        for badge, size in roster:
            places = range(place, place + size)
            if 1 <= size <= len(ring) and all(ring[p % len(ring)] == badge for p in places):
                found.append(place)
    return found


def ring_steps_by_hand(roster, ring):
    """Point [8], word for word: each possible step with the ring after it."""
    found = {}
    many = len(ring)
    for place in ring_crews_by_hand(roster, ring):
        badge, size = ring[place], dict(roster)[ring[place]]
        for side, beside, there in ((1, place + size, place), (-1, place - 1, place + size - 1)):
            neighbour = ring[beside % many]
            if size < many and neighbour != badge:
                after = list(ring)
                for crew_place in range(place + side, place + side + size):
                    after[crew_place % many] = badge
                after[there % many] = neighbour
                found[place, side] = "".join(after)
    return found


def ring_class_by_hand(roster, ring):
    """Point [9]: all rings to which the ring can be walked."""
    found = {ring}
    front = [ring]
    while front:
        for other in ring_steps_by_hand(roster, front.pop()).values():
            if other not in found:
                found.add(other)
                front.append(other)
    return found


def is_valid_on_ring_by_hand(roster, ring, left, deletion):
    """Point [10], word for word, for a tuple of integers and the set of places that are left."""
    if not deletion or len(set(deletion)) < len(deletion) or not set(deletion) <= left:
        return False
    people = {ring[place] for place in deletion}
    if len(people) > 1 or dict(roster)[people.pop()] != len(deletion):
        return False
    for place, following in zip(deletion, deletion[1:]):
        around = [(place + by) % len(ring) for by in range(1, len(ring) + 1)]
        if [other for other in around if other in left][0] != following:
            return False
    return True


def ring_deletions_by_hand(roster, ring, left):
    """All deletions that are valid when these places of a ring are left."""
    row = sorted(left) * 2
    tried = [
        tuple(row[first:first + size])
        for size in sorted({size for _, size in roster if size <= len(left)})
        for first in range(len(left))
    ]
    return [deletion for deletion in tried if is_valid_on_ring_by_hand(roster, ring, left, deletion)]


def ring_readings_by_hand(roster, ring):
    """For each set of places that a reading can leave: a reading, and whether it is complete."""
    found = {}
    front = [()]
    while front:
        reading = front.pop()
        left = frozenset(range(len(ring))).difference(*reading)
        if left not in found:
            more = ring_deletions_by_hand(roster, ring, left)
            found[left] = (reading, not more)
            front.extend(reading + (deletion,) for deletion in more)
    return found


def ring_form_after(roster, ring, left):
    """Points [12], [13], [15], word for word: the form, when a complete reading leaves these places."""
    left = sorted(left)
    word = "".join(ring[place] for place in left)
    divisor = divisor_by_hand(roster, ring, word)
    core = min(rotations_of(word), default="")
    residues = [place % divisor for place, one in zip(left, rotations_of(word)) if one == core]
    return (tuple(ring.count(badge) for badge, _ in roster), core, min(residues, default=0))


def divisor_by_hand(roster, ring, core):
    """Point [13]: the divisor of a ring with this core."""
    sizes = [size for badge, size in roster if ring.count(badge) > core.count(badge)]
    return max(d for d in range(1, len(ring) + 1) if all(n % d == 0 for n in [len(ring)] + sizes))


def ring_form_by_hand(roster, ring):
    """The form of the ring, by a reading that takes out any valid deletion as long as there is one."""
    left = frozenset(range(len(ring)))
    while deletions := ring_deletions_by_hand(roster, ring, left):
        left = left.difference(deletions[-1])
    return ring_form_after(roster, ring, left)


def turn_by_hand(roster, form):
    """Point [15]: the turn of a form of a ring."""
    counts, core, _ = form
    if not core:
        return 1
    ring = "".join(badge * count for (badge, _), count in zip(roster, counts))
    divisor = divisor_by_hand(roster, ring, core)
    period = min(d for d in range(1, len(core) + 1) if core[d:] + core[:d] == core)
    return max(d for d in range(1, 13) if divisor % d == 0 and period % d == 0)
