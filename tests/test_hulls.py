"""Point [13]: the pieces of good rows, and the least rule that forbids pieces and lets all that is good."""

import itertools
import random
import unittest

from shortlooks import hulls
from shortlooks.comparing import alike, least_form, within
from shortlooks.errors import InvalidNumber, NotARule
from shortlooks.hulls import extra, hull, pieces
from shortlooks.keeping import kept
from shortlooks.rules import Rule
from shortlooks.samples import ends_rule, even_rule, free_rule, has_rule
from tests.asking import NO_NUMBERS, NO_RULES, Asking
from tests.plain import least_text
from tests.samples import all_rows, many_words, random_rules, round_rule, written
from tests.watching import chain_text, forbidding_text, is_good, plain_look, sparse_texts, watched_texts

NONE = written("ab", ["p"], [], ["p", "p"])
ALL = written("abc", ["p"], ["p"], ["p"] * 3)
EMPTY = written("ab", ["p", "q"], ["p"], ["q", "q", "q", "q"])
# Good is the row ab alone.
ONE_ROW = written("ab", ["p", "q", "r", "s"], ["r"], ["q", "s", "s", "r", "s", "s", "s", "s"])
NEVER_COMING = written("ab", ["p", "q"], ["q"], ["p", "p", "q", "p"])


def pieces_of_short_rows(text, number, longest):
    """The pieces of all good rows of at most so many signs."""
    signs = text.split("\n")[0][6:]
    rows = [row for row in all_rows(signs, longest) if is_good(text, row)]
    return tuple(sorted(set().union(*[plain_look("windows", number, row) for row in rows])))


def small_rules(seed):
    """Texts of rules with so few moods that all pieces stand in quite short good rows."""
    texts = [written(*parts) for parts in random_rules(seed, 60, 3)]
    return [text for text in texts if len(text.split("\n")[0]) < 9]


class Pieces(unittest.TestCase, Asking):
    def test_the_examples_of_the_document(self):
        ends, free, has = ends_rule(), free_rule(), has_rule()
        self.assertEqual(
            [pieces(free, 2), extra(free, 2), extra(free, 1), pieces(has, 2), extra(has, 3),
             alike(hull(ends, 2), ends)],
            [("><", ">a", ">b", "a<", "ab", "b<", "ba", "bb"), None, "aa",
             (">a", ">b", "a<", "aa", "ab", "b<", "ba", "bb"), "bb", True])

    def test_the_interface_stands_in_the_file(self):
        for name in ("pieces", "hull", "extra"):
            self.assertEqual(getattr(hulls, name).__module__, "shortlooks.hulls")

    def test_no_good_row_has_no_pieces(self):
        for number in range(1, 6):
            self.assert_gives(pieces, (Rule(NONE), number), ())
            self.assert_gives(pieces, (Rule(NEVER_COMING), number), ())

    def test_all_rows_are_good(self):
        self.assert_gives(pieces, (Rule(ALL), 1), ("<", ">", "a", "b", "c"))
        self.assertEqual(len(pieces(Rule(ALL), 5)), 3 ** 5 + 2 * 3 ** 4 + 3 ** 3 + 3 ** 2 + 3 + 1)

    def test_rows_shorter_than_a_piece(self):
        self.assert_gives(pieces, (Rule(EMPTY), 1), ("<", ">"))
        for number in range(2, 6):
            self.assert_gives(pieces, (Rule(EMPTY), number), ("><",))
        for number, told in ((1, ("<", ">", "a", "b")), (2, (">a", "ab", "b<")), (3, (">ab", "ab<")), (4, (">ab<",)),
                             (5, (">ab<",))):
            self.assert_gives(pieces, (Rule(ONE_ROW), number), told)

    def test_pieces_of_all_short_good_rows(self):
        for text in small_rules(91) + [ends_rule().text, even_rule().text, free_rule().text, has_rule().text]:
            for number in range(1, 4):
                self.assertEqual(pieces(Rule(text), number), pieces_of_short_rows(text, number, 8), text)

    def test_pieces_at_the_greatest_length(self):
        for rule in (ends_rule(), even_rule(), free_rule(), has_rule()):
            for number in (4, 5):
                self.assertEqual(pieces(rule, number), pieces_of_short_rows(rule.text, number, 10))

    def test_great_rules(self):
        # A row must be so long to be good that all others stand in one.
        for signs in ("a", "ab", "abc"):
            told = [">" + "".join(row) for row in itertools.product(signs, repeat=4)]
            told += ["".join(row) + "<" for row in itertools.product(signs, repeat=4)]
            told += ["".join(row) for row in itertools.product(signs, repeat=5)]
            self.assertEqual(pieces(Rule(chain_text(300, signs)), 5), tuple(sorted(told)))


class Hulls(unittest.TestCase, Asking):
    def assert_hull(self, text, number, longest):
        """The hull lets just the rows all of whose pieces are pieces of good rows."""
        rule = Rule(text)
        told = hull(rule, number)
        self.assertIs(type(told), Rule)
        self.assertEqual(told.text, least_text(told.text))
        self.assertTrue(within(rule, told))
        known = set(pieces(rule, number))
        for row in all_rows(rule.signs, longest):
            self.assertIs(is_good(told.text, row), plain_look("windows", number, row) <= known, (text, number, row))
        self.assertEqual(told.text, least_text(forbidding_text(number, rule.signs, known)))

    def test_all_ways_to_call_them(self):
        self.assert_gives(hull, (ends_rule(), 2), least_form(ends_rule()))
        self.assert_gives(hull, (free_rule(), 2), free_rule())
        self.assert_gives(hull, (Rule(NONE), 1), Rule(NONE.replace("p", "maa")))
        self.assert_gives(extra, (free_rule(), 1), "aa")
        self.assert_gives(extra, (free_rule(), 2), None)

    def test_rules_with_one_mood(self):
        for text in (NONE, ALL, NEVER_COMING):
            for number in range(1, 6):
                self.assertEqual(hull(Rule(text), number), least_form(Rule(text)))
                self.assert_gives(extra, (Rule(text), number), None)

    def test_the_empty_row_and_one_row(self):
        for number in range(1, 6):
            self.assert_hull(EMPTY, number, 6)
            self.assert_hull(ONE_ROW, number, 6)
            self.assert_gives(extra, (Rule(EMPTY), number), None)
        self.assertEqual([extra(Rule(ONE_ROW), number) for number in range(1, 6)], ["", None, None, None, None])

    def test_many_rules(self):
        texts = [text for text, kind, size in watched_texts(92, 24)]
        texts += [written(*parts) for parts in random_rules(93, 30, 5)] + sparse_texts(94, 20)
        for text in texts:
            for number in range(1, 6 if len(Rule(text).signs) < 3 else 4):
                self.assert_hull(text, number, 5)

    def test_the_first_row_too_much(self):
        texts = [text for text, kind, size in watched_texts(95, 40)]
        texts += [written(*parts) for parts in random_rules(96, 60, 4)] + sparse_texts(97, 20)
        told = []
        for text in texts:
            rule = Rule(text)
            for number in range(1, 6):
                row = extra(rule, number)
                self.assertIs(row is None, kept(rule, "windows", number))
                wider = hull(rule, number)
                if row is None:
                    self.assertTrue(alike(wider, rule))
                else:
                    rows = [one for one in all_rows(rule.signs, min(len(row), 6)) if is_good(wider.text, one)
                            and not is_good(text, one)]
                    self.assertEqual(rows[:1], [row][:len(rows)])
                    self.assertIs(is_good(wider.text, row), True)
                    self.assertIs(is_good(text, row), False)
                    told.append(len(row))
        self.assertGreater(len(told), 100)

    def test_no_rule_that_forbids_pieces_lets_less(self):
        # A rule of the same sort that lets all good rows lets all rows of the hull.
        for text in small_rules(98):
            rule = Rule(text)
            for wider, kind, number in watched_texts(99, 40):
                if kind == "windows" and Rule(wider).signs == rule.signs and within(rule, Rule(wider)):
                    self.assertTrue(within(hull(rule, max(number, 1)), Rule(wider)))

    def test_a_hull_with_a_greater_number_lets_no_more(self):
        for parts in random_rules(90, 40, 5):
            rule = Rule(written(*parts))
            wider = [hull(rule, number) for number in range(1, 6)]
            for one, other in zip(wider[1:], wider):
                self.assertTrue(within(one, other))

    def test_hulls_of_hulls(self):
        for parts in random_rules(89, 40, 5):
            for number in range(1, 5):
                told = hull(Rule(written(*parts)), number)
                self.assertEqual(hull(told, number), told)

    def test_as_many_moods_as_a_hull_can_have(self):
        # All pieces of five characters but one, in turn: with three signs there are many last characters to tell apart.
        source = random.Random(88)
        rows = ["".join(row) for row in itertools.product("abc", repeat=5)]
        let = set(rows) | {">" + row[1:] for row in rows} | {row[1:] + "<" for row in rows}
        let |= {">" + "".join(row) + "<" for size in range(4) for row in itertools.product("abc", repeat=size)}
        let -= {piece for piece in sorted(let) if source.random() < 0.3}
        rule = Rule(forbidding_text(5, "abc", let))
        self.assertGreater(len(least_form(rule).moods), 100)
        self.assertEqual(hull(rule, 5), least_form(rule))
        self.assert_gives(extra, (rule, 5), None)
        self.assertEqual(extra(rule, 4) is None, kept(rule, "windows", 4))

    def test_rings_and_chains(self):
        for number in (1, 5):
            ring = Rule(round_rule(300, "abc", (0,)))
            self.assertEqual(extra(ring, number), "a" * max(1, number - 1))
            chain = Rule(chain_text(300, "ab"))
            self.assertEqual(extra(chain, number), "" if number == 1 else "a" * (number - 1))
            self.assertFalse(kept(ring, "windows", number))

    def test_a_great_random_rule(self):
        source = random.Random(87)
        moods = many_words(300)
        rule = Rule(written("abc", moods, moods[::9], [source.choice(moods) for step in range(900)]))
        for number in (1, 3, 5):
            wider = hull(rule, number)
            self.assertTrue(within(rule, wider))
            row = extra(rule, number)
            self.assertEqual((wider.has(row), rule.has(row)), (True, False))

    def test_alike_rules_are_told_of_alike(self):
        for parts in random_rules(86, 60, 5):
            rule = Rule(written(*parts))
            for other in (least_form(rule), Rule(least_text(rule.text))):
                for number in (1, 2, 4):
                    self.assertEqual(pieces(rule, number), pieces(other, number))
                    self.assertEqual(hull(rule, number), hull(other, number))
                    self.assertEqual(extra(rule, number), extra(other, number))


class Wrong(unittest.TestCase, Asking):
    def test_no_rules(self):
        for function in (pieces, hull, extra):
            for value in NO_RULES:
                self.assert_raises(function, (value, 1), NotARule, given=value)
                self.assert_raises(function, (value, 0), NotARule, given=value)

    def test_no_numbers(self):
        for function in (pieces, hull, extra):
            for value in NO_NUMBERS + [0, 6, 7, 1000]:
                self.assert_raises(function, (ends_rule(), value), InvalidNumber, given=value)

    def test_numbers_at_both_ends(self):
        self.assert_gives(pieces, (ends_rule(), 1), ("<", ">", "a", "b"))
        self.assert_gives(extra, (ends_rule(), 1), "")
        self.assert_gives(extra, (ends_rule(), 5), None)


if __name__ == "__main__":
    unittest.main()
