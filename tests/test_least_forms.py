"""Point [8]: the least form."""

import unittest

from shortlooks.comparing import alike, least_form
from shortlooks.errors import NotARule
from shortlooks.rules import Rule
from shortlooks.samples import ends_rule
from tests.asking import NO_RULES, Asking
from tests.plain import called, least_text
from tests.samples import all_rows, many_words, random_rules, round_rule, tail_rule, written

NONE = "signs ab\nmoods maa\ngood\nmaa a maa\nmaa b maa"
ALL = "signs ab\nmoods maa\ngood maa\nmaa a maa\nmaa b maa"


class LeastForms(unittest.TestCase, Asking):
    def assert_least(self, text, least):
        self.assert_gives(least_form, (Rule(text),), Rule(least))

    def test_the_example_of_the_document(self):
        text = "signs ab\nmoods maa mab\ngood mab\nmaa a mab\nmaa b maa\nmab a mab\nmab b maa"
        self.assertEqual(str(least_form(ends_rule())), text)

    def test_no_good_row_and_all_rows_good(self):
        self.assert_least(NONE, NONE)
        self.assert_least(ALL, ALL)
        self.assert_least(round_rule(300, "ab"), NONE)
        self.assert_least(round_rule(300, "ab", range(300)), ALL)
        never = written("ab", ["p", "q"], ["q"], ["p", "p", "p", "q"])
        self.assert_least(never, NONE)

    def test_moods_that_never_come(self):
        text = written("ab", ["out", "x", "in", "y"], ["in", "y"],
                       ["in", "out", "in", "y", "in", "out", "y", "x"])
        self.assert_least(text, least_form(ends_rule()).text)

    def test_moods_that_are_alike(self):
        moods = ["p", "q", "r", "s"]
        text = written("ab", moods, ["q", "s"], ["q", "r", "s", "p", "s", "p", "q", "r"])
        self.assert_least(text, least_form(ends_rule()).text)

    def test_moods_are_numbered_as_they_come_behind_the_rows(self):
        # The row b comes ahead of aa, so the mood behind b has the lower number.
        text = written("ab", ["p", "deep", "beside", "dead"], ["deep"],
                       ["dead", "beside", "deep", "p", "deep", "dead", "beside", "p"])
        least = written("ab", ["maa", "mab", "mac", "mad"], ["mad"],
                        ["mab", "mac", "mac", "maa", "mad", "mab", "mad", "maa"])
        self.assertEqual(least_text(text), least)
        self.assert_least(text, least)

    def test_names_of_300_moods(self):
        for signs in ("a", "xyz"):
            rule = least_form(Rule(round_rule(300, signs, [299])))
            self.assertEqual(rule.moods, tuple([called(number) for number in range(300)]))
            self.assertEqual([rule.moods[at] for at in (0, 25, 26, 51, 52, 299)],
                             ["maa", "maz", "mba", "mbz", "mca", "mln"])
            self.assertEqual(rule.good, ("mln",))

    def test_fewer_moods_of_300(self):
        for number, good in ((150, [7, 157]), (100, [0, 100, 200]), (2, range(0, 300, 2)), (60, range(3, 300, 60))):
            rule = least_form(Rule(round_rule(300, "ab", good)))
            self.assertEqual(len(rule.moods), number)
            self.assertEqual(rule.moods, tuple([called(at) for at in range(number)]))
        self.assertEqual(len(least_form(Rule(tail_rule(50, 250, [49, 299]))).moods), 250)
        self.assertEqual(len(least_form(Rule(tail_rule(50, 250, [299]))).moods), 300)

    def test_names_of_the_least_form_with_another_meaning(self):
        text = written("ab", ["mab", "maa"], ["maa"], ["maa", "mab", "maa", "mab"])
        self.assert_least(text, least_form(ends_rule()).text)

    def test_many_rules(self):
        for parts in random_rules(11, 400, 7):
            text = written(*parts)
            self.assertEqual(least_form(Rule(text)).text, least_text(text))

    def test_rules_with_many_moods(self):
        for parts in random_rules(12, 12, 60):
            text = written(*parts)
            self.assertEqual(least_form(Rule(text)).text, least_text(text))

    def test_the_least_form_has_the_same_rows_and_is_its_own(self):
        for parts in random_rules(13, 100):
            rule = Rule(written(*parts))
            form = least_form(rule)
            self.assertTrue(least_form(form) == form)
            self.assertIs(alike(rule, form), True)
            for row in all_rows(rule.signs, 4):
                self.assertIs(form.has(row), rule.has(row))

    def test_alike_rules_have_the_same_one(self):
        moods = many_words(300)
        for parts in random_rules(14, 40):
            signs, words, good, goals = parts
            # Each mood is there twice, and each sign leads to one of the two.
            doubled = [word + side for word in many_words(len(words)) for side in ("", "x")]
            places = [words.index(goal) for goal in goals]
            rows = [places[at * len(signs):(at + 1) * len(signs)] for at in range(len(words))]
            leads = [doubled[2 * place + (at + side) % 2] for at, row in enumerate(rows) for side in range(2)
                     for place in row]
            chosen = [doubled[2 * at + side] for at, word in enumerate(words) for side in range(2) if word in good]
            other = Rule(written(signs, doubled, chosen, leads))
            self.assertTrue(least_form(other) == least_form(Rule(written(*parts))))
        self.assertTrue(least_form(Rule(round_rule(300, "k", range(0, 300, 3)))) ==
                        least_form(Rule(written("k", moods[:3], moods[:1], [moods[1], moods[2], moods[0]]))))

    def test_no_rules(self):
        for value in NO_RULES:
            self.assert_raises(least_form, (value,), NotARule, given=value)


if __name__ == "__main__":
    unittest.main()
