"""Points [4] and [7]: rows, where they lead, and which are good."""

import random
import unittest

from shortlooks.errors import InvalidRow
from shortlooks.rules import Rule
from tests.samples import ENDS, all_rows, many_words, odd_values, random_rules, round_rule, written


class Rows(unittest.TestCase):
    def assert_row(self, rule, row, mood, good):
        self.assertEqual([rule.mood(row), rule.mood(row=row)], [mood, mood])
        self.assertIs(rule.has(row), good)
        self.assertIs(rule.has(row=row), good)

    def test_the_empty_row(self):
        self.assert_row(Rule(ENDS), "", "out", False)
        self.assert_row(Rule(ENDS).turn("out"), "", "out", True)

    def test_short_rows_of_the_rule_of_the_document(self):
        rule = Rule(ENDS)
        for row in all_rows("ab", 8):
            good = row.endswith("a")
            self.assert_row(rule, row, "in" if good else "out", good)

    def test_rows_of_many_rules(self):
        for signs, moods, good, goals in random_rules(7, 80):
            rule = Rule(written(signs, moods, good, goals))
            for row in all_rows(signs, 4):
                place = 0
                for sign in row:
                    place = moods.index(goals[place * len(signs) + signs.index(sign)])
                self.assert_row(rule, row, moods[place], moods[place] in good)

    def test_a_row_is_read_from_its_first_sign_on(self):
        rule = Rule(written("ab", ["p", "q", "r"], ["q"], ["q", "r", "q", "q", "r", "r"]))
        self.assert_row(rule, "ab", "q", True)
        self.assert_row(rule, "ba", "r", False)

    def test_rows_of_1000_signs(self):
        rule = Rule(ENDS)
        self.assert_row(rule, "b" * 999 + "a", "in", True)
        self.assert_row(rule, "a" * 999 + "b", "out", False)
        source = random.Random(8)
        moods = many_words(300)
        long = Rule(round_rule(300, "abc", [1000 % 300]))
        row = "".join(source.choices("abc", k=1000))
        self.assert_row(long, row, moods[1000 % 300], True)
        self.assert_row(long, row[:999], moods[999 % 300], False)

    def assert_no_row(self, rule, value):
        for call in (lambda: rule.mood(value), lambda: rule.mood(row=value),
                     lambda: rule.has(value), lambda: rule.has(row=value)):
            with self.assertRaises(InvalidRow) as caught:
                call()
            self.assertIs(caught.exception.given, value)

    def test_rows_of_more_than_1000_signs(self):
        for length in (1001, 1002, 60000):
            self.assert_no_row(Rule(ENDS), "a" * length)
        self.assert_no_row(Rule(ENDS), "ab" * 501)

    def test_rows_with_another_sign(self):
        rule = Rule(ENDS)
        for row in ("c", "ac", "ca", "A", "aB", " ", "a ", " a", "a\n", "\n", "a b", "out", "<", ">a<", "1",
                    "a" * 999 + "c", "c" + "b" * 999, "c" * 1001):
            self.assert_no_row(rule, row)
        self.assert_no_row(Rule(written("az", ["m"], [], ["m", "m"])), "amz")

    def test_whatever_is_no_string(self):
        rule = Rule(ENDS)
        for value in odd_values() + [["a", "b"], ("a", "b"), b"ab", rule]:
            self.assert_no_row(rule, value)


if __name__ == "__main__":
    unittest.main()
