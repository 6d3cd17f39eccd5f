"""Promise 3: the bounds."""

import unittest

from clearsheets import bounds

BOUNDS = {
    "MAX_COUNTED": 3,
    "MAX_DOTS": 400,
    "MAX_DRAWN": 8,
    "MAX_EDITS": 20,
    "MAX_HOLDERS": 5,
    "MAX_LOOKS": 12,
    "MAX_SOLVED": 4,
    "MAX_TONES": 4,
}


class BoundsTest(unittest.TestCase):

    def test_each_bound_has_its_value(self):
        for name, value in BOUNDS.items():
            with self.subTest(name=name):
                self.assertEqual(getattr(bounds, name), value)
                self.assertIs(type(getattr(bounds, name)), int)


if __name__ == "__main__":
    unittest.main()
