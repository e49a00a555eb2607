"""The limits of the interface."""

import unittest

from shortlooks import limits

TOLD = {
    "MOST_SIGNS": 3,
    "MOST_MOODS": 300,
    "MOST_ROW": 1000,
    "MOST_LOOK": 1000,
    "MOST_PIECE": 5,
    "MOST_MOVINGS": 300,
    "MOST_TRIPLES": 3000,
    "MOST_PAIRS": 3000,
    "MOST_LOTS": 3000,
    "MOST_CHANGES": 6,
}


class Limits(unittest.TestCase):
    def test_each_name_has_the_told_value(self):
        for name, value in TOLD.items():
            with self.subTest(name):
                self.assertIs(type(getattr(limits, name)), int)
                self.assertEqual(getattr(limits, name), value)


if __name__ == "__main__":
    unittest.main()
