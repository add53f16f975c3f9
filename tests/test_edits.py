"""Point [21]: what an edit is, crewstep/edits.py."""

import unittest

from crewstep.edits import is_edit
from tests.checks import NO_TUPLES, THINGS, CrewTest

# The words of the table, each with the length of its edits.
WORDS = {
    "line": 3, "ring": 3, "drop": 2, "step": 4, "walk": 3, "enter": 4, "leave": 3, "close": 2,
    "cut": 3, "join": 3, "part": 4,
}

NO_WORDS = THINGS + (
    "lines", "rings", "Line", "LINE", "line ", " line", "lin", "undo", "redo", "form", "show", "size",
    "line\n", "drop p", ("line",), ["line"], {"line": 3}, {}, b"line", "walks", "parts", "on",
)


class IsEditTest(CrewTest):
    def check_edit(self, result, thing):
        self.check_returns(result, is_edit, thing)
        self.check_returns(result, is_edit, thing=thing)

    def test_the_examples(self):
        self.check_edit(True, ("cut", None, "x"))
        self.check_edit(False, ["drop", "p"])

    def test_each_word_with_each_length(self):
        self.assertEqual(len(WORDS), 11)
        for word, length in WORDS.items():
            for many in range(1, 7):
                self.check_edit(many == length, (word, "p", "q", "r", "s", "t")[:many])
                self.check_edit(many == length, (word,) + (None,) * (many - 1))
            self.check_edit(False, (word,) + ("p",) * 1999)

    def test_the_empty_tuple(self):
        self.check_edit(False, ())

    def test_the_other_items_are_not_looked_at(self):
        for word, length in WORDS.items():
            for thing in THINGS:
                self.check_edit(True, (word,) + (thing,) * (length - 1))

    def test_other_first_items(self):
        for word in NO_WORDS:
            with self.subTest(word=word):
                for many in range(6):
                    self.check_edit(False, (word,) + ("p",) * many)

    def test_a_word_at_another_index(self):
        self.check_edit(False, ("p", "line", "aab"))
        self.check_edit(False, (None, "drop"))

    def test_objects_that_are_no_tuples(self):
        for thing in NO_TUPLES + tuple(WORDS):
            with self.subTest(thing=thing):
                self.check_edit(False, thing)
        for word, length in WORDS.items():
            items = (word, "p", "q", "r")[:length]
            self.check_edit(False, list(items))
            self.check_edit(False, dict.fromkeys(items))
            self.check_edit(False, (items,))
            self.check_edit(False, " ".join(items))


if __name__ == "__main__":
    unittest.main()
