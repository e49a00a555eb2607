"""Points [4] and [6]: the rules that lead and turn give."""

import unittest

from shortlooks.errors import InvalidMood, InvalidSign
from shortlooks.rules import Rule
from tests.samples import ENDS, many_words, odd_values, random_rules, round_rule, written

NO_MOODS = odd_values() + ["", "ou", "outt", "out in", "OUT", "a", "ab", "out\n", " out", "m" * 9, Rule(ENDS)]
NO_SIGNS = odd_values() + ["", "c", "A", "ab", "ba", "aa", "a ", "out", "\n", "a\n", Rule(ENDS)]


class Lead(unittest.TestCase):
    def assert_lead(self, rule, mood, sign, goal, text):
        ahead = (rule.text, rule.signs, rule.moods, rule.good, [rule.mood(sign) for sign in rule.signs])
        for changed in (rule.lead(mood, sign, goal), rule.lead(mood=mood, sign=sign, goal=goal),
                        rule.lead(goal=goal, sign=sign, mood=mood), rule.lead(mood, sign, goal=goal)):
            self.assertIs(type(changed), Rule)
            self.assertEqual(changed.text, text)
            self.assertTrue(changed == Rule(text))
        behind = (rule.text, rule.signs, rule.moods, rule.good, [rule.mood(sign) for sign in rule.signs])
        self.assertEqual(behind, ahead)

    def test_each_line_of_the_rule_of_the_document(self):
        rule = Rule(ENDS)
        for mood in ("out", "in"):
            for sign in "ab":
                for goal in ("out", "in"):
                    old = [line for line in ENDS.split("\n") if line.startswith("%s %s " % (mood, sign))]
                    text = ENDS.replace("\n" + old[0], "\n%s %s %s" % (mood, sign, goal))
                    self.assert_lead(rule, mood, sign, goal, text)

    def test_a_changed_rule_leads_otherwise(self):
        rule = Rule(ENDS).lead("in", "b", "in")
        self.assertEqual([rule.mood(row) for row in ("", "b", "a", "ab", "bab")], ["out", "out", "in", "in", "in"])
        self.assertEqual(Rule(ENDS).mood("ab"), "out")

    def test_all_changes_of_many_rules(self):
        for signs, moods, good, goals in random_rules(5, 60, 4):
            rule = Rule(written(signs, moods, good, goals))
            pairs = [(mood, sign) for mood in moods for sign in signs]
            for at, (mood, sign) in enumerate(pairs):
                for goal in moods:
                    changed = goals[:at] + [goal] + goals[at + 1:]
                    self.assert_lead(rule, mood, sign, goal, written(signs, moods, good, changed))

    def test_one_change_behind_the_other(self):
        rule = Rule(ENDS)
        other = rule.lead("out", "a", "out").lead("in", "b", "in").lead("out", "a", "in").lead("in", "b", "out")
        self.assertTrue(other == rule)

    def test_the_greatest_rule(self):
        moods = many_words(300)
        rule = Rule(round_rule(300, "abc"))
        changed = rule.lead(moods[299], "c", moods[299])
        self.assertEqual(changed.text, rule.text[:rule.text.rindex(" ")] + " " + moods[299])

    def test_errors_with_the_whole_value(self):
        rule = Rule(ENDS)
        for value in NO_MOODS:
            for call in (lambda: rule.lead(value, "a", "in"), lambda: rule.lead(mood=value, sign="a", goal="in"),
                         lambda: rule.lead("out", "a", value), lambda: rule.lead(mood="out", sign="a", goal=value)):
                with self.assertRaises(InvalidMood) as caught:
                    call()
                self.assertIs(caught.exception.given, value)
        for value in NO_SIGNS:
            for call in (lambda: rule.lead("out", value, "in"), lambda: rule.lead(goal="in", mood="out", sign=value)):
                with self.assertRaises(InvalidSign) as caught:
                    call()
                self.assertIs(caught.exception.given, value)
        self.assertEqual(rule.text, ENDS)

    def test_the_first_error_is_raised(self):
        rule = Rule(ENDS)
        wrong = [
            (("x", "c", "y"), InvalidMood, "x"),
            (("x", "c", "in"), InvalidMood, "x"),
            (("x", "a", "y"), InvalidMood, "x"),
            (("out", "c", "y"), InvalidSign, "c"),
            (("out", "a", "y"), InvalidMood, "y"),
            ((None, None, None), InvalidMood, None),
            (("out", [], ()), InvalidSign, []),
        ]
        for (mood, sign, goal), error, given in wrong:
            for call in (lambda: rule.lead(mood, sign, goal), lambda: rule.lead(goal=goal, sign=sign, mood=mood)):
                with self.subTest((mood, sign, goal)):
                    with self.assertRaises(error) as caught:
                        call()
                    self.assertEqual(caught.exception.given, given)


class Turn(unittest.TestCase):
    def assert_turn(self, rule, mood, text):
        ahead = (rule.text, rule.signs, rule.moods, rule.good, rule.has(""))
        for changed in (rule.turn(mood), rule.turn(mood=mood)):
            self.assertIs(type(changed), Rule)
            self.assertEqual(changed.text, text)
            self.assertTrue(changed == Rule(text))
        self.assertEqual((rule.text, rule.signs, rule.moods, rule.good, rule.has("")), ahead)

    def test_the_rule_of_the_document(self):
        rule = Rule(ENDS)
        self.assert_turn(rule, "in", ENDS.replace("good in", "good"))
        self.assert_turn(rule, "out", ENDS.replace("good in", "good out in"))
        self.assertEqual(rule.turn("in").good, ())
        self.assertEqual(rule.turn("out").good, ("out", "in"))

    def test_a_turned_rule_has_other_rows(self):
        rule = Rule(ENDS).turn("out").turn("in")
        self.assertEqual([rule.has(row) for row in ("", "a", "b", "ab")], [True, False, True, True])

    def test_good_moods_in_the_order_of_the_moods(self):
        for signs, moods, good, goals in random_rules(6, 200):
            rule = Rule(written(signs, moods, good, goals))
            for mood in moods:
                other = [word for word in moods if (word in good and word != mood) or (word not in good and word == mood)]
                self.assert_turn(rule, mood, written(signs, moods, other, goals))

    def test_turned_twice_it_is_the_same(self):
        rule = Rule(round_rule(300, "abc", [0, 5, 299]))
        for mood in (rule.moods[0], rule.moods[1], rule.moods[299]):
            self.assertFalse(rule.turn(mood) == rule)
            self.assertTrue(rule.turn(mood).turn(mood) == rule)

    def test_errors_with_the_whole_value(self):
        rule = Rule(ENDS)
        for value in NO_MOODS:
            for call in (lambda: rule.turn(value), lambda: rule.turn(mood=value)):
                with self.assertRaises(InvalidMood) as caught:
                    call()
                self.assertIs(caught.exception.given, value)
        self.assertEqual(rule.text, ENDS)


if __name__ == "__main__":
    unittest.main()
