"""The files of the package: where the interface is defined, and what README.md shows."""

import doctest
import importlib
import inspect
import os
import unittest

TOP = os.path.dirname(os.path.dirname(os.path.abspath(__file__)))

# Each function of the interface with its parameters, under its file. A parameter with "=" is
# passed by name only and has the default value None.
INTERFACE = {
    "rosters": {
        "check_roster": ["roster"], "is_roster": ["thing"], "badges_of": ["roster"],
        "size_of": ["roster", "badge"],
    },
    "people": {
        "check_line": ["roster", "line"], "check_ring": ["roster", "ring"],
        "is_line": ["roster", "thing"], "is_ring": ["roster", "thing"],
        "counts_of": ["roster", "line"], "turned": ["roster", "ring", "by"],
    },
    "steps": {
        "crews_at": ["roster", "line"], "steps_of": ["roster", "line", "badge="],
        "after_walk": ["roster", "line", "walk"], "undo_walk": ["roster", "line", "walk"],
    },
    "readings": {
        "reading_of": ["roster", "line"], "left_by": ["roster", "line", "reading"],
        "is_complete": ["roster", "line", "reading"], "core_of": ["roster", "line"],
        "crew_counts": ["roster", "line"],
    },
    "forms": {
        "check_form": ["roster", "form"], "is_form": ["roster", "thing"],
        "form_of": ["roster", "line"], "standard_line": ["roster", "form"],
        "joined_form": ["roster", "first", "second"],
    },
    "ways": {
        "why_not": ["roster", "start", "goal"], "way_between": ["roster", "start", "goal"],
    },
}


class PackageTest(unittest.TestCase):
    def test_each_function_is_defined_in_its_file_with_its_parameters(self):
        for file, functions in INTERFACE.items():
            module = importlib.import_module("crewstep." + file)
            for name, parameters in functions.items():
                function = getattr(module, name)
                self.assertEqual(function.__module__, "crewstep." + file)
                found = inspect.signature(function).parameters.values()
                self.assertEqual([one.name for one in found], [p.rstrip("=") for p in parameters])
                for one in found:
                    if one.name + "=" in parameters:
                        self.assertEqual(one.kind, inspect.Parameter.KEYWORD_ONLY, name)
                        self.assertIsNone(one.default, name)
                    else:
                        self.assertEqual(one.kind, inspect.Parameter.POSITIONAL_OR_KEYWORD, name)
                        self.assertIs(one.default, inspect.Parameter.empty, name)

    def test_the_examples_of_the_readme(self):
        readme = os.path.join(TOP, "README.md")
        results = doctest.testfile(readme, module_relative=False)
        self.assertGreater(results.attempted, 0)
        self.assertEqual(results.failed, 0)


if __name__ == "__main__":
    unittest.main()
