"""The interface: what has landed stands in its file, under its names; promise 3 on what is returned."""

import importlib
import inspect
import unittest

from clearsheets.ways import dots, groups, is_group, parts, way_error
from tests.values import H, V, W, any_values

FUNCTIONS = {
    "ways": {
        "is_group": ["holders", "value"],
        "groups": ["holders"],
        "parts": ["group"],
        "way_error": ["value"],
        "dots": ["way"],
    },
}
CLASSES = {
    "errors": {
        "BadMode": ["value"],
        "BadRule": ["number", "word"],
        "BadText": ["place"],
        "BadWay": ["number", "word"],
        "NotKept": ["broken"],
        "TooMany": ["limit"],
        "NoGroup": ["group"],
    },
}


def is_returned_kind(value):
    """Return whether value is made of the values that may be returned."""
    if type(value) is tuple:
        return all(is_returned_kind(item) for item in value)
    return value is None or type(value) in (int, str, bool)


class InterfaceTest(unittest.TestCase):

    def check(self, listed):
        for file, names in listed.items():
            module = importlib.import_module("clearsheets." + file)
            for name, arguments in names.items():
                with self.subTest(file=file, name=name):
                    item = getattr(module, name)
                    self.assertEqual(item.__module__, "clearsheets." + file)
                    self.assertEqual(item.__name__, name)
                    self.assertEqual(list(inspect.signature(item).parameters), arguments)

    def test_functions(self):
        self.check(FUNCTIONS)

    def test_classes(self):
        self.check(CLASSES)

    def test_results_are_made_of_the_kinds_told(self):
        found = [groups(holders) for holders in range(1, 6)] + [parts(group) for group in groups(5)]
        found += [dots(way) for way in (W, V, H)]
        for value in any_values():
            found += [way_error(value), is_group(3, value)]
        for result in found:
            self.assertTrue(is_returned_kind(result), result)


if __name__ == "__main__":
    unittest.main()
