"""The files of the package: where the interface is defined, and what README.md shows."""

import doctest
import importlib
import inspect
import os
import unittest

TOP = os.path.dirname(os.path.dirname(os.path.abspath(__file__)))

# Each function of the interface with its parameters, under its file. A parameter with "=" is
# passed by name only and has that default value.
INTERFACE = {
    "rosters": {
        "check_roster": ["roster"], "is_roster": ["thing"], "badges_of": ["roster"],
        "size_of": ["roster", "badge"],
    },
    "people": {
        "check_line": ["roster", "line"], "check_ring": ["roster", "ring"],
        "is_line": ["roster", "thing"], "is_ring": ["roster", "thing"],
        "counts_of": ["roster", "line"], "turned": ["roster", "ring", "by"],
    },
    "steps": {
        "crews_at": ["roster", "line"], "steps_of": ["roster", "line", "badge=None"],
        "after_walk": ["roster", "line", "walk"], "undo_walk": ["roster", "line", "walk"],
    },
    "readings": {
        "reading_of": ["roster", "line"], "left_by": ["roster", "line", "reading"],
        "is_complete": ["roster", "line", "reading"], "core_of": ["roster", "line"],
        "crew_counts": ["roster", "line"],
    },
    "forms": {
        "check_form": ["roster", "form"], "is_form": ["roster", "thing"],
        "form_of": ["roster", "line"], "standard_line": ["roster", "form"],
        "joined_form": ["roster", "first", "second"],
    },
    "ways": {
        "why_not": ["roster", "start", "goal"], "way_between": ["roster", "start", "goal"],
    },
    "fewest": {
        "least_steps": ["roster", "start", "goal"], "least_way": ["roster", "start", "goal"],
    },
    "series": {
        "class_size": ["roster", "form"], "reduced_words": ["roster", "counts"],
    },
    "ranks": {
        "count_beginning": ["roster", "form", "word"], "first_badges": ["roster", "form"],
        "rank_of": ["roster", "line"], "line_at": ["roster", "form", "rank"],
        "next_line": ["roster", "line"],
    },
    "newcomers": {
        "newcomers": ["roster", "line", "core", "front=False"],
        "completion": ["roster", "line", "goal"],
    },
    "ringsteps": {
        "ring_crews_at": ["roster", "ring"], "ring_steps_of": ["roster", "ring", "badge=None"],
        "ring_after_walk": ["roster", "ring", "walk"], "ring_undo_walk": ["roster", "ring", "walk"],
    },
    "ringreadings": {
        "ring_reading_of": ["roster", "ring"], "ring_left_by": ["roster", "ring", "reading"],
        "ring_is_complete": ["roster", "ring", "reading"], "ring_core_of": ["roster", "ring"],
        "ring_crew_counts": ["roster", "ring"], "divisor_of": ["roster", "ring"],
    },
    "ringforms": {
        "check_ring_form": ["roster", "form"], "is_ring_form": ["roster", "thing"],
        "ring_form_of": ["roster", "ring"], "standard_ring": ["roster", "form"],
        "least_turn": ["roster", "form"], "rings_alike": ["roster", "form"],
    },
    "ringways": {
        "ring_why_not": ["roster", "start", "goal"], "ring_way_between": ["roster", "start", "goal"],
    },
    "ringseries": {
        "ring_class_size": ["roster", "form"],
    },
    "edits": {
        "is_edit": ["thing"],
    },
    "texts": {
        "roster_text": ["roster"], "walk_text": ["walk"], "yard_text": ["yard"],
    },
    "parsing": {
        "parse_roster": ["text"], "parse_walk": ["text"], "parse_yard": ["text"],
    },
}

# Each class of the interface but the errors, with its methods and their parameters, under its file.
CLASSES = {
    "yards": ("Yard", {
        "__init__": ["roster"], "apply": ["edit"], "together": ["edits"], "undo": [], "redo": [], "roster": [],
        "names": [], "shape_of": ["name"], "people_of": ["name"], "form": ["name"], "are_alike": ["name", "other"],
        "history": [], "twin": [], "__eq__": ["other"], "__len__": [], "__str__": [],
    }),
    "desk": ("Desk", {"__init__": ["text"], "say": ["command"]}),
}


def module_of(file):
    return importlib.import_module("crewstep." + file)


def written(parameter):
    """The parameter as INTERFACE has it."""
    if parameter.kind == inspect.Parameter.KEYWORD_ONLY:
        return f"{parameter.name}={parameter.default!r}"
    if parameter.kind == inspect.Parameter.POSITIONAL_OR_KEYWORD and parameter.default is parameter.empty:
        return parameter.name
    return str(parameter) + " is of another kind"


class PackageTest(unittest.TestCase):
    def test_each_function_is_defined_in_its_file_with_its_parameters(self):
        for file, functions in INTERFACE.items():
            module = module_of(file)
            for name, parameters in functions.items():
                function = getattr(module, name)
                self.assertEqual(function.__module__, "crewstep." + file)
                found = inspect.signature(function).parameters.values()
                self.assertEqual([written(one) for one in found], parameters, name)

    def test_each_method_is_defined_in_its_class_with_its_parameters(self):
        for file, (name, methods) in CLASSES.items():
            kind = getattr(module_of(file), name)
            self.assertEqual(kind.__module__, "crewstep." + file)
            self.assertEqual(kind.__bases__, (object,))
            for method, parameters in methods.items():
                found = list(inspect.signature(vars(kind)[method]).parameters.values())[1:]
                self.assertEqual([written(one) for one in found], parameters, method)

    def test_the_examples_of_the_readme(self):
        readme = os.path.join(TOP, "README.md")
        results = doctest.testfile(readme, module_relative=False)
        self.assertGreater(results.attempted, 0)
        self.assertEqual(results.failed, 0)


if __name__ == "__main__":
    unittest.main()
