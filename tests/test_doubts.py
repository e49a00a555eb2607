"""Point [13]: which ends of rows are sure, and which leave a doubt."""

import itertools
import random
import unittest

from shortlooks import doubts as module
from shortlooks.comparing import least_form, many
from shortlooks.doubts import doubts, verdict
from shortlooks.errors import InvalidNumber, InvalidRow, NotARule, TooMany
from shortlooks.keeping import kept
from shortlooks.rules import Rule
from shortlooks.samples import ends_rule, even_rule, free_rule, has_rule
from tests.asking import NO_NUMBERS, NO_RULES, Asking
from tests.plain import led, least_text, read
from tests.samples import all_rows, many_words, odd_values, random_rules, round_rule, written
from tests.watching import chain_text, is_good, lift_text, lots_of, reset_text, watched_texts

NONE = written("ab", ["p"], [], ["p", "p"])
ALL = written("abc", ["p"], ["p"], ["p"] * 3)
# Only the first mood comes.
NEVER_COMING = written("ab", ["p", "q", "r"], ["p"], ["p", "p", "r", "q", "q", "r"])
MORE_EVEN = written("ab", ["x", "never", "y", "z"], ["x", "z"], ["y", "z", "x", "never", "z", "y", "y", "x"])


def plain_verdict(text, row):
    """The verdict by the moods that come, none of them left out because it is like another one."""
    signs, moods, good, goals = read(text)
    found = [moods[0]]
    for mood in found:
        found += [goal for goal in [goals[mood, sign] for sign in signs] if goal not in found]
    flags = {led(goals, mood, row) in good for mood in found}
    return "doubt" if len(flags) == 2 else "good" if True in flags else "bad"


def plain_doubts(text, number):
    told = [plain_verdict(text, "".join(row)) for row in itertools.product(read(text)[0], repeat=number)]
    return told.count("good"), told.count("bad"), told.count("doubt")


class Doubts(unittest.TestCase, Asking):
    def test_the_examples_of_the_document(self):
        ends, free, has = ends_rule(), free_rule(), has_rule()
        self.assertEqual([doubts(ends, 0), doubts(ends, 3), doubts(has, 3), doubts(free, 2), verdict(has, "bb"),
                          verdict(free, "baa")], [(0, 0, 1), (4, 4, 0), (7, 0, 1), (0, 1, 3), "doubt", "bad"])

    def test_the_interface_stands_in_the_file(self):
        for name in ("doubts", "verdict"):
            self.assertEqual(getattr(module, name).__module__, "shortlooks.doubts")

    def test_all_ways_to_call_them(self):
        self.assert_gives(doubts, (free_rule(), 2), (0, 1, 3))
        self.assert_gives(verdict, (free_rule(), "baa"), "bad")
        self.assert_gives(verdict, (has_rule(), "ba"), "good")
        self.assert_gives(verdict, (has_rule(), "b"), "doubt")

    def test_rules_with_no_good_row_and_with_no_bad_one(self):
        for number in (0, 1, 5, 1000):
            self.assert_gives(doubts, (Rule(NONE), number), (0, 2 ** number, 0))
            self.assert_gives(doubts, (Rule(ALL), number), (3 ** number, 0, 0))
            self.assert_gives(doubts, (Rule(NEVER_COMING), number), (2 ** number, 0, 0))
        for row in ("", "a", "ba", "ab" * 500):
            self.assert_gives(verdict, (Rule(NONE), row), "bad")
            self.assert_gives(verdict, (Rule(ALL), row), "good")
            self.assert_gives(verdict, (Rule(NEVER_COMING), row), "good")

    def test_numbers_and_rows_at_their_bounds(self):
        self.assert_gives(doubts, (ends_rule(), 0), (0, 0, 1))
        self.assert_gives(doubts, (ends_rule(), 1), (1, 1, 0))
        self.assert_gives(doubts, (ends_rule(), 1000), (2 ** 999, 2 ** 999, 0))
        self.assert_gives(doubts, (even_rule(), 1000), (0, 0, 2 ** 1000))
        self.assert_gives(doubts, (has_rule(), 1000), (2 ** 1000 - 1, 0, 1))
        self.assert_gives(doubts, (free_rule(), 1000), (0, 2 ** 1000 - many(free_rule(), 1000), many(free_rule(), 1000)))
        self.assert_gives(verdict, (ends_rule(), ""), "doubt")
        self.assert_gives(verdict, (ends_rule(), "b" * 999 + "a"), "good")
        self.assert_gives(verdict, (has_rule(), "b" * 1000), "doubt")

    def test_held_against_all_rows_of_the_length(self):
        texts = [text for text, kind, size in watched_texts(81, 40)]
        texts += [written(*parts) for parts in random_rules(82, 80, 5)] + [MORE_EVEN]
        for text in texts:
            rule = Rule(text)
            for number in range(5):
                self.assertEqual(doubts(rule, number), plain_doubts(text, number))
            for row in all_rows(rule.signs, 3):
                self.assertEqual(verdict(rule, row), plain_verdict(text, row))

    def test_what_is_sure_is_so_for_all_rows_with_this_end(self):
        for parts in random_rules(83, 40, 3):
            rule = Rule(written(*parts))
            heads = list(all_rows(rule.signs, 4))
            for row in all_rows(rule.signs, 3):
                flags = {is_good(rule.text, head + row) for head in heads}
                told = "doubt" if len(flags) == 2 else "good" if True in flags else "bad"
                self.assertEqual(verdict(rule, row), told)

    def test_no_doubt_is_left_exactly_if_last_keeps_the_rule_but_for_shorter_rows(self):
        for text, kind, size in watched_texts(84, 60):
            if kept(Rule(text), "last", 3):
                self.assertEqual(doubts(Rule(text), 3)[2], 0)

    def test_alike_rules_are_told_of_alike(self):
        for parts in random_rules(85, 60, 5):
            rule = Rule(written(*parts))
            for other in (least_form(rule), Rule(least_text(rule.text))):
                for number in (0, 1, 2, 7):
                    self.assertEqual(doubts(rule, number), doubts(other, number))
                for row in all_rows(rule.signs, 2):
                    self.assertEqual(verdict(rule, row), verdict(other, row))

    def test_rings_and_chains(self):
        ring = Rule(round_rule(300, "ab", (0,)))
        self.assert_gives(doubts, (ring, 1000), (0, 0, 2 ** 1000))
        chain = Rule(chain_text(300, "abc"))
        for number, told in ((0, (0, 0, 1)), (298, (0, 0, 3 ** 298)), (299, (3 ** 299, 0, 0)), (1000, (3 ** 1000, 0, 0))):
            self.assertEqual(doubts(chain, number), told)
        self.assertEqual([verdict(chain, "c" * size) for size in (0, 298, 299, 1000)], ["doubt"] * 2 + ["good"] * 2)
        # Good are rows that end with 299 a.
        reset = Rule(reset_text(299, 1, [299]))
        self.assertEqual(doubts(reset, 299), (1, 2 ** 299 - 1, 0))
        self.assertEqual(doubts(reset, 298), (0, 2 ** 298 - 1, 1))


class TooManyLots(unittest.TestCase, Asking):
    def test_exactly_3000(self):
        for size, number in ((77, 112), (87, 94)):
            text = lift_text(size)
            self.assertEqual(len(lots_of(text, number)), 3000)
            told = doubts(Rule(text), number)
            self.assertEqual(sum(told), 2 ** number)

    def test_more_than_3000(self):
        for size, number, lots in ((77, 113, 3002), (87, 95, 3046)):
            text = lift_text(size)
            self.assertEqual(len(lots_of(text, number)), lots)
            self.assert_raises(doubts, (Rule(text), number), TooMany, limit=3000)
            self.assert_raises(doubts, (Rule(text), 1000), TooMany, limit=3000)

    def test_as_soon_as_they_come_and_not_ahead(self):
        source = random.Random(86)
        moods = many_words(300)
        rule = Rule(written("abc", moods, moods[::2], [source.choice(moods) for step in range(900)]))
        counts = [len(lots_of(rule.text, number)) for number in range(9)]
        self.assertGreater(counts[-1], 3000)
        for number, count in enumerate(counts):
            if count > 3000:
                self.assert_raises(doubts, (rule, number), TooMany, limit=3000)
            else:
                self.assertEqual(sum(doubts(rule, number)), 3 ** number)

    def test_lots_are_those_of_the_least_form(self):
        # The moods are many and led about at random, but all of them are alike.
        source = random.Random(87)
        moods = many_words(300)
        rule = Rule(written("ab", moods, moods, [source.choice(moods) for step in range(600)]))
        self.assert_gives(doubts, (rule, 1000), (2 ** 1000, 0, 0))

    def test_a_verdict_never_has_too_many(self):
        for row in ("ab" * 500, "a" * 1000, "aabb" * 200):
            self.assertEqual(verdict(Rule(lift_text(300)), row), plain_verdict(lift_text(300), row))


class Wrong(unittest.TestCase, Asking):
    def test_no_rules(self):
        for value in NO_RULES:
            self.assert_raises(doubts, (value, 1), NotARule, given=value)
            self.assert_raises(doubts, (value, -1), NotARule, given=value)
            self.assert_raises(verdict, (value, "a"), NotARule, given=value)
            self.assert_raises(verdict, (value, None), NotARule, given=value)

    def test_no_numbers(self):
        for value in NO_NUMBERS:
            self.assert_raises(doubts, (ends_rule(), value), InvalidNumber, given=value)
            self.assert_raises(doubts, (Rule(lift_text(300)), value), InvalidNumber, given=value)

    def test_no_rows(self):
        for value in odd_values() + ["c", "abc", "A", "a b", "a\n", ">a", "a" * 1001, "b" * 60000, ("a",), ["a", "b"]]:
            self.assert_raises(verdict, (ends_rule(), value), InvalidRow, given=value)


if __name__ == "__main__":
    unittest.main()
