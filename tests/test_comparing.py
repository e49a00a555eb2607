"""Points [2] and [7]: rules compared for all rows, and their good rows."""

import unittest

from shortlooks import comparing
from shortlooks.comparing import alike, first_good, least_form, many, parting, within
from shortlooks.errors import InvalidNumber, NotARule
from shortlooks.rules import Rule
from shortlooks.samples import ends_rule, even_rule, free_rule, has_rule
from tests.asking import NO_NUMBERS, NO_RULES, Asking
from tests.plain import good_rows
from tests.samples import ENDS, all_rows, many_words, random_pairs, random_rules, round_rule, tail_rule, written

NONE = written("ab", ["p"], [], ["p", "p"])
ALL = written("ab", ["p"], ["p"], ["p", "p"])
ENDS_WITH_MORE = written("ab", ["x", "never", "y", "z"], ["never", "y"],
                         ["y", "z", "never", "x", "y", "x", "y", "z"])


class Examples(unittest.TestCase):
    def test_the_examples_of_the_document(self):
        ends, even, free, has = ends_rule(), even_rule(), free_rule(), has_rule()
        self.assertEqual(
            [str(least_form(ends)), parting(ends, has), within(ends, has), alike(ends, least_form(ends)),
             first_good(ends)],
            ["signs ab\nmoods maa mab\ngood mab\nmaa a mab\nmaa b maa\nmab a mab\nmab b maa", "ab", True, True, "a"])
        self.assertEqual([many(even, 3), many(free, 4), free.has("abab"), free.mood("aab"), free.moods],
                         [4, 8, True, "mac", ("maa", "mab", "mac")])

    def test_the_interface_stands_in_the_file(self):
        for name in ("least_form", "alike", "within", "parting", "first_good", "many"):
            self.assertEqual(getattr(comparing, name).__module__, "shortlooks.comparing")


class Compared(unittest.TestCase, Asking):
    def assert_compared(self, one, other, row, inside):
        self.assert_gives(parting, (one, other), row)
        self.assert_gives(alike, (one, other), row is None)
        self.assert_gives(within, (one, other), inside)

    def test_a_rule_and_itself(self):
        for text in (ENDS, NONE, ALL, ENDS_WITH_MORE, round_rule(300, "abc", [299])):
            rule = Rule(text)
            self.assert_compared(rule, rule, None, True)
            self.assert_compared(rule, Rule(text), None, True)

    def test_alike_with_other_moods(self):
        ends = ends_rule()
        for other in (least_form(ends), Rule(ENDS_WITH_MORE)):
            self.assert_compared(ends, other, None, True)
            self.assert_compared(other, ends, None, True)

    def test_moods_that_never_come_do_not_count(self):
        one = Rule(written("ab", ["p", "q"], ["q"], ["p", "p", "q", "p"]))
        self.assert_compared(one, Rule(NONE), None, True)
        self.assert_compared(Rule(NONE), one, None, True)

    def test_no_good_row_and_all_rows_good(self):
        none, every, ends = Rule(NONE), Rule(ALL), ends_rule()
        self.assert_compared(none, every, "", True)
        self.assert_compared(every, none, "", False)
        self.assert_compared(none, ends, "a", True)
        self.assert_compared(ends, none, "a", False)
        self.assert_compared(every, ends, "", False)
        self.assert_compared(ends, every, "", True)

    def test_the_samples(self):
        ends, even, free, has = ends_rule(), even_rule(), free_rule(), has_rule()
        self.assert_compared(ends, has, "ab", True)
        self.assert_compared(has, ends, "ab", False)
        self.assert_compared(even, free, "a", False)
        self.assert_compared(free, has, "", False)
        self.assert_compared(ends, even, "", False)

    def test_the_first_row_is_the_shortest_one_and_then_the_first_string(self):
        # Good are b and aa alone: b has fewer signs.
        one = written("ab", ["p", "q", "r", "s"], ["r"], ["q", "r", "r", "s", "s", "s", "s", "s"])
        self.assert_compared(Rule(one), Rule(NONE), "b", False)
        # Good are ba, ab and bb alone.
        two = written("ab", ["p", "q", "r", "s", "t"], ["s"], ["q", "r", "t", "s", "s", "s", "t", "t", "t", "t"])
        self.assert_compared(Rule(two), Rule(NONE), "ab", False)

    def test_the_row_that_parts_need_not_be_the_one_that_is_not_within(self):
        # The empty row is good for the other alone, and the row b for the one alone.
        one = Rule(written("ab", ["p", "q", "r"], ["q"], ["r", "q", "r", "r", "r", "r"]))
        other = Rule(written("ab", ["p", "q"], ["p"], ["q", "q", "q", "q"]))
        self.assert_compared(one, other, "", False)
        self.assert_compared(other, one, "", False)

    def assert_compared_by_rows(self, left, right):
        """Asks for a pair of texts of rules with few moods, for which rows of seven signs are enough."""
        one, other = Rule(left), Rule(right)
        rows = list(all_rows(one.signs, 7))
        good, more = good_rows(left, rows), good_rows(right, rows)
        row = min(set(good) ^ set(more), key=lambda row: (len(row), row), default=None)
        inside = set(good) <= set(more)
        self.assertEqual(parting(one, other), row)
        self.assertIs(alike(one, other), row is None)
        self.assertIs(within(one, other), inside)
        return row, inside

    def test_many_pairs(self):
        told = [self.assert_compared_by_rows(left, right) for left, right in random_pairs(21, 250)]
        self.assertGreater(len([row for row, inside in told if row is None]), 20)
        self.assertGreater(len([row for row, inside in told if row is not None and inside]), 20)
        self.assertGreater(len([row for row, inside in told if not inside]), 20)

    def test_many_rules_and_the_same_ones_with_one_change(self):
        told = []
        for text, unused in random_pairs(24, 80):
            rule = Rule(text)
            mood, goal = rule.moods[-1], rule.moods[0]
            for other in (rule.turn(mood), rule.lead(mood, rule.signs[-1], goal)):
                told.append(self.assert_compared_by_rows(rule.text, other.text))
        self.assertGreater(len([row for row, inside in told if row is not None and len(row) > 2]), 5)
        self.assertGreater(len([row for row, inside in told if row is None]), 10)

    def test_a_long_row_parts_great_rules(self):
        # The lengths of good rows are 298 and, in turn, all numbers that leave 298 behind 299 or 300.
        one, other = Rule(round_rule(299, "ab", [298])), Rule(round_rule(300, "ab", [298]))
        self.assert_compared(one, other, "a" * 597, False)
        all_but_one = range(1, 300)
        one, other = Rule(round_rule(299, "a", range(1, 299))), Rule(round_rule(300, "a", all_but_one))
        self.assert_compared(one, other, "a" * 299, False)
        self.assertEqual(parting(Rule(tail_rule(299, 1, [299])), Rule(tail_rule(0, 1, []))), "a" * 299)

    def test_great_rules_that_are_alike(self):
        one, other = Rule(round_rule(300, "ab", range(0, 300, 2))), Rule(round_rule(298, "ab", range(0, 298, 2)))
        self.assert_compared(one, other, None, True)

    def test_all_90000_pairs_of_moods_come(self):
        moods = many_words(300)
        counts_a = [moods[goal] for at in range(300) for goal in ((at + 1) % 300, at)]
        counts_b = [moods[goal] for at in range(300) for goal in (at, (at + 1) % 300)]
        one = Rule(written("ab", moods, moods[299:], counts_a))
        other = Rule(written("ab", moods, moods[:299], counts_b))
        self.assertEqual(parting(one, other), "")
        self.assertIs(within(one, other), False)
        self.assertEqual(parting(one, one.turn(moods[299])), "a" * 299)
        self.assertIs(within(Rule(written("ab", moods, moods[299:], counts_b)), one), False)

    def test_no_rules_and_rules_that_do_not_fit(self):
        for function in (alike, within, parting):
            self.assert_takes_two_rules(function)


class FirstGood(unittest.TestCase, Asking):
    def test_some_rules(self):
        for rule, row in ((ends_rule(), "a"), (even_rule(), ""), (free_rule(), ""), (has_rule(), "a"),
                          (Rule(NONE), None), (Rule(ALL), "")):
            self.assert_gives(first_good, (rule,), row)

    def test_a_good_mood_that_never_comes(self):
        self.assert_gives(first_good, (Rule(written("ab", ["p", "q"], ["q"], ["p", "p", "q", "p"])),), None)

    def test_the_shortest_one_and_then_the_first_string(self):
        one = written("ab", ["p", "q", "r", "s"], ["r"], ["q", "r", "r", "s", "s", "s", "s", "s"])
        self.assert_gives(first_good, (Rule(one),), "b")
        two = written("kz", ["p", "q", "r", "s"], ["s"], ["q", "r", "q", "s", "s", "s", "s", "s"])
        self.assert_gives(first_good, (Rule(two),), "kz")

    def test_the_longest_one(self):
        self.assert_gives(first_good, (Rule(round_rule(300, "abc", [299])),), "a" * 299)

    def test_many_rules(self):
        for parts in random_rules(22, 300):
            text = written(*parts)
            rows = good_rows(text, list(all_rows(parts[0], 6)))
            self.assertEqual(first_good(Rule(text)), rows[0] if rows else None)

    def test_no_rules(self):
        for value in NO_RULES:
            self.assert_raises(first_good, (value,), NotARule, given=value)


class Many(unittest.TestCase, Asking):
    def test_the_samples(self):
        for length in range(9):
            self.assert_gives(many, (even_rule(), length), (2 ** length + 1) // 2 if length < 1 else 2 ** (length - 1))
            self.assert_gives(many, (has_rule(), length), 2 ** length - 1)
            self.assert_gives(many, (ends_rule(), length), 2 ** length // 2)
        self.assertEqual([many(free_rule(), length) for length in range(9)], [1, 2, 3, 5, 8, 13, 21, 34, 55])

    def test_no_good_row_and_all_rows_good(self):
        for length in (0, 1, 2, 1000):
            self.assert_gives(many, (Rule(NONE), length), 0)
            self.assert_gives(many, (Rule(ALL), length), 2 ** length)

    def test_both_ends_of_the_bounds(self):
        self.assert_gives(many, (has_rule(), 1000), 2 ** 1000 - 1)
        self.assert_gives(many, (has_rule(), 0), 0)
        self.assert_gives(many, (even_rule(), 0), 1)
        great = Rule(round_rule(300, "xyz", [100]))
        self.assert_gives(many, (great, 1000), 3 ** 1000)
        self.assertEqual(many(great, 999), 0)
        left, right = 1, 2
        for step in range(1000):
            left, right = right, left + right
        self.assertEqual(many(free_rule(), 1000), left)

    def test_alike_rules_have_as_many(self):
        for length in range(6):
            self.assertEqual(many(Rule(ENDS_WITH_MORE), length), many(ends_rule(), length))

    def test_many_rules(self):
        for parts in random_rules(23, 150):
            text = written(*parts)
            rows = good_rows(text, list(all_rows(parts[0], 5)))
            for length in range(6):
                self.assertEqual(many(Rule(text), length), len([row for row in rows if len(row) == length]))

    def test_no_rules_and_no_numbers(self):
        for value in NO_RULES:
            self.assert_raises(many, (value, 3), NotARule, given=value)
            self.assert_raises(many, (value, -1), NotARule, given=value)
            self.assert_raises(many, (value, None), NotARule, given=value)
        for value in NO_NUMBERS:
            self.assert_raises(many, (ends_rule(), value), InvalidNumber, given=value)


if __name__ == "__main__":
    unittest.main()
