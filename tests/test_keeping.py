"""Points [9], [10] and [11]: which watchers keep a rule, and the least look."""

import random
import unittest

from shortlooks import keeping
from shortlooks.comparing import least_form
from shortlooks.errors import InvalidKind, InvalidNumber, NotARule, TooMany
from shortlooks.keeping import kept, least_look
from shortlooks.rules import Rule
from shortlooks.samples import ends_rule, even_rule, free_rule, has_rule
from tests.asking import NO_KINDS, NO_NUMBERS, NO_RULES, Asking
from tests.plain import least_text
from tests.samples import ENDS, many_words, random_rules, round_rule, tail_rule, written
from tests.watching import (KINDS, chain_text, counting_text, is_kept_for, look_text, movings_of, pieces_text,
                            plain_kept, plain_least, reset_text, short_rows, skipping_text, sparse_texts, triples_of,
                            watched_texts)

NONE = written("ab", ["p"], [], ["p", "p"])
ALL = written("ab", ["p"], ["p"], ["p", "p"])
EMPTY = written("ab", ["p", "q"], ["p"], ["q", "q", "q", "q"])
# All moods but the first never come, and would count if they did.
NEVER_COMING = written("ab", ["p", "q", "r"], ["p", "q"], ["p", "p", "r", "q", "q", "r"])
# Good are rows that end with a; with moods that never come and moods that are alike.
MORE_ENDS = written("ab", ["x", "never", "y", "z"], ["never", "y"], ["y", "z", "never", "x", "y", "x", "y", "z"])
# Good are rows in which aa stands.
HAS_AA = written("abc", ["p", "q", "r"], ["r"], ["q", "p", "p", "r", "p", "p", "r", "r", "r"])


def ends_with(row):
    """The text of the rule whose good rows end with this row of signs a and b."""
    return look_text("last", len(row), "ab", lambda seen: seen == (row, False))


def least(kind, number):
    return max(number, 0 if kind == "last" else 1)


class Told(unittest.TestCase, Asking):
    def assert_least(self, text, kind, number, beside=(0, 1, 2, 3, 1000)):
        """This is told to be the least number, and the numbers around it and some others are told accordingly."""
        rule = Rule(text)
        self.assertEqual(least_look(rule, kind), number, (text[:300], kind))
        for asked in set(beside) | ({number - 1, number, number + 1} if number is not None else set()):
            if asked < least(kind, 0):
                continue
            try:
                told = kept(rule, kind, asked)
            except TooMany:
                self.assertEqual(kind, "sets")
            else:
                self.assertIs(told, number is not None and asked >= number, (text[:300], kind, asked))


class Examples(Told):
    def test_the_examples_of_the_document(self):
        ends, even, free, has = ends_rule(), even_rule(), free_rule(), has_rule()
        self.assertEqual([least_look(ends, "last"), least_look(ends, "ends"), least_look(ends, "windows"),
                          least_look(ends, "sets"), least_look(even, "sets")], [1, 1, 2, 2, None])
        self.assertEqual([least_look(even, "last"), least_look(free, "last"), least_look(free, "ends"),
                          least_look(free, "windows"), least_look(free, "sets")], [None, None, None, 2, 2])
        self.assertEqual([least_look(has, "sets"), kept(has, "windows", 7), kept(ends, "last", 0)], [1, False, False])

    def test_the_interface_stands_in_the_file(self):
        for name in ("kept", "least_look"):
            self.assertEqual(getattr(keeping, name).__module__, "shortlooks.keeping")

    def test_all_kinds_for_the_samples(self):
        for rule, numbers in ((ends_rule(), (1, 1, 2, 2)), (even_rule(), (None, None, None, None)),
                              (free_rule(), (None, None, 2, 2)), (has_rule(), (None, None, None, 1))):
            for kind, number in zip(KINDS, numbers):
                self.assert_least(rule.text, kind, number)

    def test_rules_with_one_mood_and_with_no_good_row_or_no_bad_one(self):
        for text in (NONE, ALL, NEVER_COMING, round_rule(7, "ab", ()), round_rule(7, "abc", range(7)),
                     written("a", ["p"], [], ["p"]), written("abc", ["p"], ["p"], ["p"] * 3)):
            for kind, number in zip(KINDS, (0, 1, 1, 1)):
                self.assert_least(text, kind, number)

    def test_the_empty_row_alone(self):
        for kind, number in zip(KINDS, (1, 1, 1, 1)):
            self.assert_least(EMPTY, kind, number)
            self.assert_least(written("a", ["p", "q"], ["q"], ["q", "q"]), kind, number if kind != "windows" else 2)

    def test_last_with_0_keeps_just_rules_of_one_kind_of_rows(self):
        for parts in random_rules(51, 60, 3):
            rule = Rule(written(*parts))
            self.assertIs(kept(rule, "last", 0), len(least_form(rule).moods) == 1)

    def test_ends_with_a_row(self):
        for row in ("a", "b", "ab", "aa", "aba", "abba", "aabab"):
            for kind, number in zip(KINDS[:3], (len(row), len(row), len(row) + 1)):
                self.assert_least(ends_with(row), kind, number)
        for row, number in (("a", 2), ("b", 2), ("ab", 3), ("aa", 3)):
            self.assertEqual(plain_least(ends_with(row), "sets", 3), number)
            self.assert_least(ends_with(row), "sets", number)

    def test_rows_whose_look_is_whole(self):
        # Good is one row alone, which has to be seen whole, or with pieces that no other row has.
        for row in ("", "a", "ab", "abb", "aaaa"):
            text = look_text("last", len(row) + 1, "ab", lambda seen: seen == (row, True))
            self.assert_least(text, "last", len(row) + 1)
            self.assert_least(text, "ends", max(1, (len(row) + 2) // 2))
            for kind in ("windows", "sets"):
                number = plain_least(text, kind, 3)
                if number is not None:
                    self.assert_least(text, kind, number)
        self.assertEqual(least_look(Rule(look_text("last", 5, "ab", lambda seen: seen == ("aaaa", True))), "windows"),
                         5)


class LiveMoods(Told):
    def test_moods_that_are_not_live_do_not_count_for_windows(self):
        # Good are rows of a alone: of the two moods one is not live.
        text = written("ab", ["p", "q"], ["p"], ["p", "q", "q", "q"])
        for kind, number in zip(KINDS, (None, None, 1, 1)):
            self.assert_least(text, kind, number)

    def test_many_moods_that_are_not_live(self):
        text = written("ab", ["p", "q", "r", "s"], ["p"], ["p", "q", "r", "s", "s", "r", "q", "q"])
        for kind, number in zip(KINDS, (None, None, 1, 1)):
            self.assert_least(text, kind, number)

    def test_all_moods_live_and_not(self):
        live = written("ab", ["p", "q"], ["p"], ["q", "q", "q", "p"])
        self.assert_least(live, "windows", plain_least(live, "windows", 9))
        self.assert_least(NONE, "windows", 1)

    def test_a_long_look_for_windows(self):
        # The signs lead pairs of live moods far about: many more signs are needed than there are moods.
        found = 0
        for text in sparse_texts(5, 1000):
            rule = Rule(text)
            number = least_look(rule, "windows")
            if number is not None and number > len(least_form(rule).moods):
                found += 1
                self.assertIs(plain_kept(text, "windows", number), True)
                self.assertIs(plain_kept(text, "windows", number - 1), False)
                self.assert_least(text, "windows", number)
        self.assertGreater(found, 2)


class ManyRules(Told):
    def test_made_for_their_kinds(self):
        for text, kind, size in watched_texts(53, 160):
            number = least_look(Rule(text), kind)
            self.assertLessEqual(number, size)
            self.assertEqual(number, plain_least(text, kind, size))
            self.assert_least(text, kind, number)

    def test_all_kinds(self):
        texts = [text for text, kind, size in watched_texts(54, 40)]
        texts += [written(*parts) for parts in random_rules(55, 60, 4)]
        for text in texts:
            moods = len(least_form(Rule(text)).moods)
            for kind in KINDS[:3]:
                # A number beyond that of all pairs of moods is enough if one is.
                number = plain_least(text, kind, 6)
                if number is None:
                    self.assertFalse(plain_kept(text, kind, moods * moods // 2 + 2))
                self.assert_gives(least_look, (Rule(text), kind), number)
                for asked in range(least(kind, 0), 5):
                    self.assert_gives(kept, (Rule(text), kind, asked), plain_kept(text, kind, asked))

    def test_sets(self):
        texts = [text for text, kind, size in watched_texts(56, 60)]
        texts += [written(*parts) for parts in random_rules(57, 150, 4)]
        for text in texts:
            rule = Rule(text)
            most = {1: 8, 2: 3, 3: 2}[len(rule.signs)]
            numbers = [asked for asked in range(1, most + 1) if len(triples_of(text, asked)) <= 3000]
            told = [plain_kept(text, "sets", asked) for asked in numbers]
            self.assertEqual([kept(rule, "sets", asked) for asked in numbers], told)
            if True in told and numbers == list(range(1, most + 1)):
                self.assertEqual(least_look(rule, "sets"), numbers[told.index(True)])

    def test_held_against_all_short_rows(self):
        parted = {kind: 0 for kind in KINDS}
        texts = [text for text, kind, size in watched_texts(58, 40)]
        texts += [written(*parts) for parts in random_rules(59, 40, 3)]
        for text in texts:
            rule = Rule(text)
            rows = short_rows(rule.signs)
            for kind in KINDS:
                for number in range(least(kind, 0), 4):
                    try:
                        told = kept(rule, kind, number)
                    except TooMany:
                        continue
                    if told:
                        self.assertTrue(is_kept_for(text, kind, number, rows), (text, kind, number))
                    elif not is_kept_for(text, kind, number, rows):
                        parted[kind] += 1
        self.assertGreater(min(parted.values()), 30)

    def test_kept_with_greater_numbers_too(self):
        for parts in random_rules(60, 60, 4):
            rule = Rule(written(*parts))
            for kind in KINDS[:3]:
                told = [kept(rule, kind, number) for number in range(least(kind, 0), 12)]
                self.assertEqual(told, sorted(told))

    def test_alike_rules_are_told_of_alike(self):
        for parts in random_rules(61, 80, 5) + [
                ("ab", ["x", "never", "y", "z"], ["never", "y"], ["y", "z", "never", "x", "y", "x", "y", "z"])]:
            rule = Rule(written(*parts))
            for other in (least_form(rule), Rule(least_text(rule.text))):
                for kind in KINDS:
                    self.assertEqual(self.told(least_look, rule, kind), self.told(least_look, other, kind))
                    self.assertEqual(self.told(kept, rule, kind, 2), self.told(kept, other, kind, 2))
        self.assertEqual([least_look(Rule(MORE_ENDS), kind) for kind in KINDS], [1, 1, 2, 2])

    def told(self, function, *arguments):
        try:
            return function(*arguments)
        except TooMany as error:
            return error.limit, "many"


class GreatRules(Told):
    def test_chains(self):
        for number, all_signs in ((2, ("a", "abc")), (3, ("a", "abc")), (299, ("a",)), (300, ("ab",))):
            for signs in all_signs:
                text = chain_text(number, signs)
                self.assert_least(text, "last", number - 1, (1000,))
                self.assert_least(text, "ends", max(1, number // 2), (1000,))
                self.assert_least(text, "windows", number, (1000,))
            self.assert_least(chain_text(number, "a"), "sets", max(1, number - 1), (1000,))

    def test_chains_that_begin_good(self):
        # Good are rows of fewer signs than there are moods: the last mood is not live.
        for number in (2, 3, 300):
            text = chain_text(number, "a", range(number - 1))
            self.assert_least(text, "last", number - 1, ())
            self.assert_least(text, "windows", number - 1, ())
            self.assert_least(text, "sets", max(1, number - 1), ())

    def test_rings(self):
        for number in (2, 3, 299, 300):
            for signs in ("a", "ab"):
                for kind in KINDS:
                    self.assert_least(round_rule(number, signs, (0,)), kind, None, (1, 1000))

    def test_counting(self):
        self.assert_least(counting_text(300), "last", None)
        self.assert_least(counting_text(300), "ends", None)
        self.assert_least(counting_text(300), "windows", None)
        self.assert_least(counting_text(299), "sets", None)
        self.assert_least(counting_text(2), "sets", 1)
        self.assert_least(counting_text(3), "sets", None)

    def test_resets(self):
        # Good are rows that end with so many a.
        for number in (2, 3, 300):
            text = reset_text(number - 1, 1, [number - 1])
            self.assert_least(text, "last", number - 1, (0, 1000))
            self.assert_least(text, "ends", number - 1, (1, 1000))
            self.assert_least(text, "windows", number, (1, 1000))

    def test_a_great_random_rule(self):
        source = random.Random(62)
        moods = many_words(300)
        goals = [source.choice(moods) for step in range(900)]
        rule = Rule(written("abc", moods, moods[::2], goals))
        for kind in KINDS[:3]:
            self.assert_least(rule.text, kind, None)
        self.assert_raises(least_look, (rule, "sets"), TooMany, limit=300)


class TooManyMovings(Told):
    def test_exactly_300(self):
        for text in (round_rule(300, "a", (0,)), counting_text(300), reset_text(0, 150, [0])):
            self.assertEqual(len(movings_of(text)), 300)
            self.assert_gives(least_look, (Rule(text), "sets"), None)
        self.assertEqual(len(movings_of(chain_text(300, "a"))), 299)
        self.assert_gives(least_look, (Rule(chain_text(300, "a")), "sets"), 299)

    def test_more_than_300(self):
        for text, number in ((reset_text(1, 150, [0, 1]), 301), (reset_text(0, 151, [0]), 302),
                             (reset_text(151, 1, [151]), 302)):
            self.assertEqual(len(movings_of(text)), number)
            self.assert_raises(least_look, (Rule(text), "sets"), TooMany, limit=300)

    def test_only_for_the_least_look_of_sets(self):
        rule = Rule(reset_text(1, 150, [0, 1]))
        for kind in KINDS[:3]:
            self.assert_gives(least_look, (rule, kind), None)
        self.assert_gives(kept, (rule, "sets", 1), False)

    def test_movings_are_those_of_the_least_form(self):
        self.assert_gives(least_look, (Rule(round_rule(300, "ab", range(0, 300, 2))), "sets"), None)
        moods = many_words(300)
        source = random.Random(63)
        goals = [moods[0], moods[0]] + [source.choice(moods) for step in range(598)]
        self.assert_gives(least_look, (Rule(written("ab", moods, moods[:1], goals)), "sets"), 1)


class TooManyTriples(Told):
    def test_exactly_3000(self):
        text = skipping_text(137, 0, [124], 3)
        self.assertEqual(len(triples_of(text, 2)), 3000)
        self.assert_gives(kept, (Rule(text), "sets", 2), False)

    def test_3001(self):
        for text in (skipping_text(136, 47, [139], 2), skipping_text(101, 38, [61, 89, 101, 118, 130], 0)):
            self.assertEqual(len(triples_of(text, 2)), 3001)
            self.assert_raises(kept, (Rule(text), "sets", 2), TooMany, limit=3000)
            self.assert_gives(kept, (Rule(text), "sets", 1), False)

    def test_whatever_the_answer_would_be(self):
        for text in (ENDS, has_rule().text, free_rule().text, even_rule().text, NONE, ALL, EMPTY):
            rule = Rule(text)
            self.assertEqual(len(triples_of(text, 3)) > 3000, False)
            self.assertIs(kept(rule, "sets", 3), text != even_rule().text)
            for number in (4, 5, 12, 13, 14, 15, 100, 999, 1000):
                self.assert_raises(kept, (rule, "sets", number), TooMany, limit=3000)
        three = Rule(written("abc", ["p"], [], ["p"] * 3))
        self.assert_gives(kept, (three, "sets", 2), True)
        self.assert_raises(kept, (three, "sets", 3), TooMany, limit=3000)

    def test_one_sign_has_never_too_many(self):
        for text, number in ((chain_text(300, "a"), 299), (written("a", ["p"], [], ["p"]), 1),
                             (tail_rule(100, 1, [7, 99], "a"), 100)):
            for asked in (1, 2, 3, 98, 99, 100, 101, 298, 299, 300, 999, 1000):
                self.assert_gives(kept, (Rule(text), "sets", asked), asked >= number)

    def test_the_least_look_asks_only_up_to_the_least_number(self):
        # With 4 there would be too many, but 3 is enough.
        self.assert_gives(least_look, (Rule(ends_with("aa")), "sets"), 3)
        self.assert_gives(least_look, (Rule(pieces_text(1, "abc", lambda seen: "a" in seen)), "sets"), 1)
        self.assert_gives(least_look, (Rule(HAS_AA), "sets"), 2)

    def test_the_least_look_has_too_many_on_the_way(self):
        # It would be kept with 4, or with 3 signs with 3, or with 299, but 2 has too many.
        for text in (ends_with("aaa"), chain_text(300, "ab"), reset_text(150, 1, [150]),
                     look_text("last", 2, "abc", lambda seen: seen == ("aa", False))):
            self.assertLessEqual(len(movings_of(text)), 300)
            self.assert_raises(least_look, (Rule(text), "sets"), TooMany, limit=3000)

    def test_no_least_look_is_told_without_asking_for_triples(self):
        for text in (round_rule(300, "abc", (0,)), counting_text(300)):
            self.assert_gives(least_look, (Rule(text), "sets"), None)

    def test_only_for_sets(self):
        for kind in KINDS[:3]:
            self.assert_gives(kept, (ends_rule(), kind, 1000), True)


class Wrong(unittest.TestCase, Asking):
    def test_no_rules(self):
        for value in NO_RULES:
            self.assert_raises(kept, (value, "last", 1), NotARule, given=value)
            self.assert_raises(kept, (value, None, None), NotARule, given=value)
            self.assert_raises(least_look, (value, "last"), NotARule, given=value)
            self.assert_raises(least_look, (value, "none"), NotARule, given=value)

    def test_no_kinds(self):
        for value in NO_KINDS:
            self.assert_raises(kept, (ends_rule(), value, 1), InvalidKind, given=value)
            self.assert_raises(kept, (ends_rule(), value, -1), InvalidKind, given=value)
            self.assert_raises(least_look, (ends_rule(), value), InvalidKind, given=value)

    def test_no_numbers(self):
        for kind in KINDS:
            for value in NO_NUMBERS:
                self.assert_raises(kept, (ends_rule(), kind, value), InvalidNumber, given=value)

    def test_zero_is_a_number_for_last_alone(self):
        self.assert_gives(kept, (Rule(ALL), "last", 0), True)
        for kind in KINDS[1:]:
            self.assert_raises(kept, (Rule(ALL), kind, 0), InvalidNumber, given=0)


if __name__ == "__main__":
    unittest.main()
