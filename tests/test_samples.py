"""The rules of shortlooks/samples.py."""

import unittest

from shortlooks import samples
from shortlooks.comparing import least_form
from shortlooks.rules import Rule
from tests.plain import least_text
from tests.samples import ENDS, all_rows

TOLD = {
    "ends_rule": lambda row: row.endswith("a"),
    "even_rule": lambda row: row.count("a") % 2 == 0,
    "free_rule": lambda row: "aa" not in row,
    "has_rule": lambda row: "a" in row,
}


class Samples(unittest.TestCase):
    def test_each_one_has_the_told_rows(self):
        for name, told in TOLD.items():
            rule = getattr(samples, name)()
            self.assertIs(type(rule), Rule)
            self.assertEqual(rule.signs, "ab")
            for row in all_rows("ab", 9):
                with self.subTest(name, row=row):
                    self.assertIs(rule.has(row), told(row))

    def test_the_first_one_is_the_rule_of_the_document(self):
        self.assertEqual(samples.ends_rule().text, ENDS)

    def test_the_other_three_are_in_their_least_form(self):
        for make in (samples.even_rule, samples.free_rule, samples.has_rule):
            rule = make()
            self.assertEqual(rule.text, least_text(rule.text))
            self.assertTrue(least_form(rule) == rule)
        self.assertEqual(samples.free_rule().moods, ("maa", "mab", "mac"))

    def test_each_call_gives_an_equal_rule(self):
        for name in TOLD:
            make = getattr(samples, name)
            self.assertTrue(make() == make())

    def test_the_interface_stands_in_the_file(self):
        for name in TOLD:
            self.assertEqual(getattr(samples, name).__module__, "shortlooks.samples")


if __name__ == "__main__":
    unittest.main()
