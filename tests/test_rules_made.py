"""Points [3], [5] and [6]: what a rule is that is made from a right text."""

import unittest

from shortlooks.errors import NotARule
from shortlooks.rules import Rule
from tests.samples import ENDS, Equal, many_words, odd_values, random_rules, round_rule, written


class RulesMade(unittest.TestCase):
    def assert_parts(self, rule, signs, moods, good, text):
        self.assertEqual(rule.text, text)
        self.assertEqual(rule.signs, signs)
        self.assertEqual(rule.moods, tuple(moods))
        self.assertEqual(rule.good, tuple(good))
        self.assertEqual([type(part) for part in (rule.text, rule.signs, rule.moods, rule.good)],
                         [str, str, tuple, tuple])

    def test_the_rule_of_the_document(self):
        self.assert_parts(Rule(ENDS), "ab", ["out", "in"], ["in"], ENDS)

    def test_no_mood_good_and_all_moods_good(self):
        none = ENDS.replace("good in", "good")
        self.assert_parts(Rule(none), "ab", ["out", "in"], [], none)
        both = ENDS.replace("good in", "good out in")
        self.assert_parts(Rule(both), "ab", ["out", "in"], ["out", "in"], both)

    def test_the_smallest_rule(self):
        for good in ([], ["m"]):
            text = written("z", ["m"], good, ["m"])
            self.assert_parts(Rule(text), "z", ["m"], good, text)

    def test_moods_called_like_other_words_of_the_text(self):
        moods = ["signs", "good", "moods", "a", "b"]
        text = written("ab", moods, ["good", "a"], ["good", "a"] * 5)
        self.assert_parts(Rule(text), "ab", moods, ["good", "a"], text)

    def test_the_order_of_the_moods_is_the_one_of_the_text(self):
        moods = ["zz", "b", "a", "ba"]
        text = written("k", moods, ["b", "ba"], ["a", "zz", "a", "ba"])
        self.assert_parts(Rule(text), "k", moods, ["b", "ba"], text)

    def test_the_greatest_rule(self):
        text = round_rule(300, "amz", range(0, 300, 7))
        rule = Rule(text)
        moods = many_words(300)
        self.assert_parts(rule, "amz", moods, [moods[at] for at in range(0, 300, 7)], text)

    def test_rules_of_all_sorts_and_made_again(self):
        for signs, moods, good, goals in random_rules(1, 300):
            text = written(signs, moods, good, goals)
            rule = Rule(text)
            self.assert_parts(rule, signs, moods, good, text)
            self.assertTrue(Rule(rule.text) == rule)
            self.assertEqual(Rule(rule.text).text, text)

    def test_by_position_and_by_name(self):
        self.assertTrue(Rule(ENDS) == Rule(text=ENDS))

    def test_str_is_the_text(self):
        for text in (ENDS, round_rule(1), round_rule(300, "xyz", [0])):
            self.assertEqual(str(Rule(text)), text)

    def test_repr_for_all_numbers(self):
        self.assertEqual(repr(Rule(ENDS)), "Rule of 2 moods")
        self.assertEqual(repr(Rule(text=round_rule(1))), "Rule of 1 moods")
        for number in range(1, 301):
            self.assertEqual(repr(Rule(round_rule(number, "k"))), "Rule of %d moods" % number)

    def test_the_interface_stands_in_the_class(self):
        self.assertEqual(Rule.__module__, "shortlooks.rules")
        for name in ("text", "signs", "moods", "good"):
            self.assertIsInstance(vars(Rule)[name], property)
        for name in ("__init__", "__eq__", "__str__", "__repr__", "mood", "has", "lead", "turn"):
            self.assertIn(name, vars(Rule))


class RulesCompared(unittest.TestCase):
    def assert_equal_both_ways(self, one, other, equal):
        for left, right in ((one, other), (other, one)):
            self.assertIs(left == right, equal)
            self.assertIs(left != right, not equal)

    def test_equal_if_the_texts_are(self):
        rule = Rule(ENDS)
        self.assert_equal_both_ways(rule, rule, True)
        self.assert_equal_both_ways(rule, Rule("".join(list(ENDS))), True)
        for parts in random_rules(2, 50):
            self.assert_equal_both_ways(Rule(written(*parts)), Rule(written(*parts)), True)

    def test_not_equal_if_one_thing_differs(self):
        others = [
            ENDS.replace("signs ab", "signs ac").replace(" b ", " c "),
            ENDS.replace("moods out in", "moods outer in").replace("out a in\nout b out", "outer a in\nouter b outer")
            .replace("in b out", "in b outer"),
            written("ab", ["in", "out"], ["in"], ["in", "out", "in", "out"]),
            ENDS.replace("good in", "good"),
            ENDS.replace("good in", "good out"),
            ENDS.replace("good in", "good out in"),
            ENDS.replace("out a in", "out a out"),
            ENDS.replace("out b out", "out b in"),
            ENDS.replace("in a in", "in a out"),
            ENDS.replace("in b out", "in b in"),
        ]
        for text in others:
            with self.subTest(text):
                self.assert_equal_both_ways(Rule(ENDS), Rule(text), False)

    def test_alike_rules_with_other_texts_are_not_equal(self):
        more = written("ab", ["out", "in", "never"], ["in"], ["in", "out", "in", "out", "never", "never"])
        self.assert_equal_both_ways(Rule(ENDS), Rule(more), False)

    def test_not_equal_to_anything_that_is_no_rule(self):
        rule = Rule(ENDS)
        for value in odd_values() + [ENDS, (ENDS,), NotARule(rule), Rule, repr(rule)]:
            self.assertIs(rule == value, False)
            self.assertIs(rule != value, True)
        for value in (None, 0, ENDS, (ENDS,), [], NotARule(rule)):
            self.assertIs(value == rule, False)
            self.assertIs(value != rule, True)

    def test_not_equal_even_to_what_equals_everything(self):
        self.assertIs(Rule(ENDS) == Equal(), False)

    def test_rules_are_true(self):
        for text in (ENDS, written("a", ["m"], [], ["m"])):
            self.assertIs(bool(Rule(text)), True)


if __name__ == "__main__":
    unittest.main()
