"""Point [12]: papers for never, the rows that they give, and rows with the same look."""

import random
import unittest

from shortlooks import nevers
from shortlooks.comparing import least_form
from shortlooks.errors import InvalidKind, InvalidNumber, InvalidPaper, Kept, NotARule, TooMany
from shortlooks.keeping import kept, least_look
from shortlooks.nevers import never, pumped, same_look
from shortlooks.rules import Rule
from shortlooks.samples import ends_rule, even_rule, free_rule, has_rule
from tests.asking import NO_KINDS, NO_NUMBERS, NO_RULES, Asking
from tests.plain import least_text
from tests.samples import many_words, odd_values, random_rules, round_rule, tail_rule, written
from tests.watching import (KINDS, chain_text, counting_text, is_good, is_never_paper, movings_of, plain_look,
                            reset_text, skipping_text, sparse_texts, triples_of, watched_texts)

SAME = ("last", "ends", "sets")
NONE = written("ab", ["p"], [], ["p", "p"])
ALL = written("abc", ["p"], ["p"], ["p"] * 3)
NEVER_COMING = written("ab", ["p", "q", "r"], ["p", "q"], ["p", "p", "r", "q", "q", "r"])
# Good are rows with an even number of a; with moods that never come and moods that are alike.
MORE_EVEN = written("ab", ["x", "never", "y", "z"], ["x", "z"], ["y", "z", "x", "never", "z", "y", "y", "x"])
# For each kind a paper with as few signs as there may be, and the two rows for 3 times.
SMALLEST = {
    "last": (("", "", "a", ""), ("aaa", "aaa")),
    "ends": (("", "b", "", "", "a", ""), ("bbbaaa", "bbbaaa")),
    "windows": (("", "", "a", "", ""), ("aaa", "aaa")),
    "sets": (("", "a", "", ""), ("aaaaaa", "aaaaaaaaa")),
}
NO_PAPERS = odd_values() + ["", "abcd", ["", "a", "b", ""], ("a", "b"), ("a",) * 3, ("a",) * 7, ("a",) * 100,
                            (("", "a", "b", ""),), Rule(NONE), {"": 1, "a": 2, "b": 3, "c": 4}]
NO_ROWS = odd_values() + ["A", "a b", "a\n", ">a", "a<", "1", "a" * 999 + "-", ("a",), ["a"]]


def told(function, *arguments):
    """What a function returns or raises."""
    try:
        return function(*arguments)
    except (Kept, TooMany) as error:
        return type(error), vars(error)


class Papers(unittest.TestCase, Asking):
    def assert_never(self, rule, kind, numbers=(1, 2, 5)):
        """A paper is told, and gives rows with the same look, just one of which is good."""
        paper = never(rule, kind)
        self.assertTrue(is_never_paper(least_form(rule).text, kind, paper), (rule.text[:300], kind, paper))
        for number in numbers:
            rows = pumped(kind, paper, number)
            self.assertIs(type(rows), tuple)
            self.assertEqual([is_good(rule.text, row) for row in rows].count(True), 1)
            for size in range(0 if kind == "last" else 1, number + 1):
                if kind != "windows":
                    self.assertEqual(plain_look(kind, size, rows[0]), plain_look(kind, size, rows[1]))
                else:
                    self.assert_pieces_of_good_rows(rule, paper, rows, size, number)

    def assert_pieces_of_good_rows(self, rule, paper, rows, size, number):
        u, v, x, z, w = paper
        good = (rows[0], v + x * number + w)
        self.assertEqual([is_good(rule.text, row) for row in (*good, rows[1])], [True, True, False])
        self.assertLessEqual(plain_look("windows", size, rows[1]),
                             plain_look("windows", size, good[0]) | plain_look("windows", size, good[1]))

    def assert_kept(self, rule, kind):
        self.assert_raises(never, (rule, kind), Kept)


class Nevers(Papers):
    def test_the_examples_of_the_document(self):
        self.assertEqual(len(never(even_rule(), "last")), 4)
        self.assertEqual(pumped("last", ("", "a", "b", ""), 3), ("bbb", "abbb"))

    def test_the_interface_stands_in_the_file(self):
        for name in ("never", "pumped", "same_look"):
            self.assertEqual(getattr(nevers, name).__module__, "shortlooks.nevers")

    def test_the_samples(self):
        for rule, kinds in ((ends_rule(), ()), (even_rule(), KINDS), (free_rule(), ("last", "ends")),
                            (has_rule(), ("last", "ends", "windows")), (Rule(MORE_EVEN), KINDS)):
            for kind in KINDS:
                if kind in kinds:
                    self.assert_never(rule, kind, (1, 2, 3, 4, 7))
                else:
                    self.assert_kept(rule, kind)

    def test_all_ways_to_call_it_give_the_same(self):
        for kind in KINDS:
            self.assert_gives(never, (even_rule(), kind), never(even_rule(), kind))

    def test_rules_that_are_always_kept(self):
        for text in (NONE, ALL, NEVER_COMING, round_rule(5, "ab", ()), round_rule(5, "a", range(5))):
            for kind in KINDS:
                self.assert_kept(Rule(text), kind)

    def test_many_rules(self):
        texts = [text for text, kind, size in watched_texts(71, 60)]
        texts += [written(*parts) for parts in random_rules(72, 120, 4)] + sparse_texts(73, 40)
        counts = {(kind, flag): 0 for kind in KINDS for flag in (True, False)}
        for text in texts:
            rule = Rule(text)
            for kind in KINDS:
                if kind == "sets" and len(movings_of(text)) > 300:
                    self.assert_raises(never, (rule, kind), TooMany, limit=300)
                    continue
                try:
                    number = least_look(rule, kind)
                except TooMany:
                    number = 0
                counts[kind, number is None] += 1
                if number is None:
                    self.assert_never(rule, kind)
                else:
                    self.assert_kept(rule, kind)
        self.assertGreater(min(counts.values()), 20)

    def test_a_paper_with_two_rows_between_and_one_with_one(self):
        # With a before b or not: no sets, whichever, tell the order, but each row twice is the same as once.
        order = Rule(written("abc", ["p", "q", "r", "s"], ["r"],
                             ["q", "s", "p", "q", "r", "q", "r", "r", "r", "s", "s", "s"]))
        self.assert_never(order, "sets")
        self.assertEqual(len(never(order, "sets")), 5)
        self.assert_never(Rule(counting_text(3)), "sets")
        self.assertEqual(len(never(Rule(counting_text(3)), "sets")), 4)

    def test_the_paper_is_for_the_moods_of_the_least_form(self):
        # In the second of these rules no row of fewer than 300 signs leads all moods as it does twice.
        for text in (MORE_EVEN, round_rule(300, "ab", range(0, 300, 2))):
            for kind in KINDS:
                self.assertEqual(never(Rule(text), kind), never(Rule(least_text(text)), kind))

    def test_alike_rules_are_told_of_alike(self):
        for parts in random_rules(74, 60, 5):
            rule = Rule(written(*parts))
            other = Rule(least_text(rule.text))
            for kind in KINDS:
                self.assertEqual(told(never, rule, kind), told(never, other, kind))
                if kind != "windows":
                    for number in (1, 2):
                        self.assertEqual(told(same_look, rule, kind, number), told(same_look, other, kind, number))


class GreatRules(Papers):
    def test_rings(self):
        for number in (2, 299, 300):
            for kind in KINDS:
                self.assert_never(Rule(round_rule(number, "ab", (0,))), kind, (1, 2))

    def test_chains(self):
        for kind in KINDS:
            self.assert_kept(Rule(chain_text(300, "ab")), kind)
            self.assert_kept(Rule(chain_text(300, "a", range(299))), kind)

    def test_counting(self):
        for kind in KINDS:
            self.assert_never(Rule(counting_text(300)), kind, (1, 2))

    def test_a_ring_behind_a_chain(self):
        for kind in KINDS:
            self.assert_never(Rule(tail_rule(200, 100, [250], "a")), kind, (1, 2))

    def test_exactly_300_movings(self):
        for text in (round_rule(300, "a", (0,)), counting_text(300), reset_text(0, 150, [0])):
            self.assertEqual(len(movings_of(text)), 300)
            self.assert_never(Rule(text), "sets", (1,))
        self.assertEqual(len(movings_of(reset_text(150, 1, [150]))), 300)
        self.assert_kept(Rule(reset_text(150, 1, [150])), "sets")

    def test_more_than_300_movings(self):
        # The last one of these rules is kept: too many come ahead of that.
        for text in (reset_text(1, 150, [0, 1]), reset_text(0, 151, [0]), reset_text(151, 1, [151])):
            self.assertGreater(len(movings_of(text)), 300)
            self.assert_raises(never, (Rule(text), "sets"), TooMany, limit=300)
        for kind in ("last", "ends", "windows"):
            self.assert_never(Rule(reset_text(0, 151, [0])), kind, (1, 2))
            self.assert_kept(Rule(reset_text(151, 1, [151])), kind)

    def test_triples_are_not_asked_for(self):
        # With so many moods and 2 signs more than 3000 triples come.
        self.assert_raises(kept, (Rule(chain_text(300, "ab")), "sets", 2), TooMany, limit=3000)
        self.assert_kept(Rule(chain_text(300, "ab")), "sets")

    def test_a_great_random_rule(self):
        source = random.Random(75)
        moods = many_words(300)
        rule = Rule(written("abc", moods, moods[::2], [source.choice(moods) for step in range(900)]))
        for kind in ("last", "ends", "windows"):
            self.assert_never(rule, kind, (1, 2))


class Pumped(unittest.TestCase, Asking):
    def test_last_and_windows(self):
        self.assert_gives(pumped, ("last", ("a", "b", "cd", "e"), 2), ("acdcde", "bcdcde"))
        self.assert_gives(pumped, ("windows", ("a", "b", "cd", "e", "f"), 2), ("acdcde", "bcdcde"))

    def test_ends(self):
        self.assert_gives(pumped, ("ends", ("a", "bc", "d", "e", "fg", "h"), 2), ("abcbcdfgfgh", "abcbcefgfgh"))

    def test_sets(self):
        self.assert_gives(pumped, ("sets", ("a", "bc", "d", "e"), 2), ("abcbcdbcbce", "abcbcdbcbcdbcbce"))
        self.assert_gives(pumped, ("sets", ("a", "bc", "d", "e", "f"), 1), ("abcdbcebcf", "abcebcdbcf"))

    def test_once_and_1000_times(self):
        for kind in KINDS:
            paper, rows = SMALLEST[kind]
            self.assert_gives(pumped, (kind, paper, 3), rows)
            for number in (1, 1000):
                longer = tuple("".join(letter * (row.count(letter) // 3 * number) for letter in "ba") for row in rows)
                self.assert_gives(pumped, (kind, paper, number), longer)

    def test_any_rows_of_letters(self):
        # The rows need not be a paper for any rule, and may be longer than rows that are passed elsewhere.
        paper = ("z" * 3000, "y", "xw" * 700, "v")
        self.assert_gives(pumped, ("last", paper, 2), ("z" * 3000 + "xw" * 1400 + "v", "y" + "xw" * 1400 + "v"))

    def test_no_kinds(self):
        for value in NO_KINDS:
            self.assert_raises(pumped, (value, SMALLEST["last"][0], 1), InvalidKind, given=value)
            self.assert_raises(pumped, (value, None, None), InvalidKind, given=value)

    def test_no_papers(self):
        for kind in KINDS:
            for value in NO_PAPERS:
                self.assert_raises(pumped, (kind, value, 1), InvalidPaper, given=value)
                self.assert_raises(pumped, (kind, value, 0), InvalidPaper, given=value)

    def test_so_many_rows_as_are_told_for_the_kind(self):
        sizes = {"last": (4,), "ends": (6,), "windows": (5,), "sets": (4, 5)}
        for kind in KINDS:
            for size in range(9):
                paper = ("a",) * size
                if size in sizes[kind]:
                    self.assertEqual(len(pumped(kind, paper, 1)), 2)
                else:
                    self.assert_raises(pumped, (kind, paper, 1), InvalidPaper, given=paper)
                listed = ["a"] * size
                self.assert_raises(pumped, (kind, listed, 1), InvalidPaper, given=listed)

    def test_each_row_of_a_paper(self):
        for kind, size in (("last", 4), ("ends", 6), ("windows", 5), ("sets", 4), ("sets", 5)):
            for at in range(size):
                for value in NO_ROWS:
                    paper = ("a",) * at + (value,) + ("a",) * (size - at - 1)
                    self.assert_raises(pumped, (kind, paper, 1), InvalidPaper, given=paper)

    def test_x_and_y_are_not_empty(self):
        for kind, size, places in (("last", 4, (2,)), ("ends", 6, (1, 4)), ("windows", 5, (2,)),
                                   ("sets", 4, (1,)), ("sets", 5, (1,))):
            for at in range(size):
                paper = ("a",) * at + ("",) + ("a",) * (size - at - 1)
                if at in places:
                    self.assert_raises(pumped, (kind, paper, 1), InvalidPaper, given=paper)
                else:
                    self.assertEqual(len(pumped(kind, paper, 1)), 2)

    def test_no_numbers(self):
        for kind in KINDS:
            for value in NO_NUMBERS + [0]:
                self.assert_raises(pumped, (kind, SMALLEST[kind][0], value), InvalidNumber, given=value)


class SameLook(unittest.TestCase, Asking):
    def assert_same(self, rule, kind, number):
        """It is told whether two rows have the same look, and they have it."""
        rows = same_look(rule, kind, number)
        if kept(rule, kind, number):
            self.assertIsNone(rows)
            return
        self.assertIs(type(rows), tuple)
        good, bad = rows
        self.assertIs(is_good(rule.text, good), True)
        self.assertIs(is_good(rule.text, bad), False)
        self.assertEqual(plain_look(kind, number, good), plain_look(kind, number, bad))

    def test_the_samples(self):
        for rule in (ends_rule(), even_rule(), free_rule(), has_rule(), Rule(MORE_EVEN), Rule(NONE), Rule(ALL)):
            for kind in SAME:
                for number in (0, 1, 2, 3, 4, 7, 999, 1000):
                    if number > 0 and kind != "sets" or kind == "last" or 0 < number < 3:
                        self.assert_same(rule, kind, number)

    def test_some_pairs(self):
        self.assert_gives(same_look, (ends_rule(), "last", 0), ("a", ""))
        self.assert_gives(same_look, (ends_rule(), "last", 1), None)
        self.assert_gives(same_look, (ends_rule(), "sets", 1), same_look(ends_rule(), "sets", 1))
        self.assert_gives(same_look, (even_rule(), "ends", 3), same_look(even_rule(), "ends", 3))

    def test_many_rules(self):
        texts = [text for text, kind, size in watched_texts(76, 40)]
        texts += [written(*parts) for parts in random_rules(77, 60, 5)]
        for text in texts:
            rule = Rule(text)
            for kind in SAME:
                for number in range(0 if kind == "last" else 1, 4 if len(rule.signs) < 3 else 3):
                    if kind == "sets" and len(triples_of(text, number)) > 3000:
                        self.assert_raises(same_look, (rule, kind, number), TooMany, limit=3000)
                        break
                    self.assert_same(rule, kind, number)

    def test_great_rules(self):
        for text in (chain_text(300, "ab"), round_rule(300, "ab", (0,)), counting_text(300), reset_text(299, 1, [299])):
            for kind in ("last", "ends"):
                for number in (149, 150, 299):
                    self.assert_same(Rule(text), kind, number)
        for number in (1, 2, 298, 299, 1000):
            self.assert_same(Rule(chain_text(300, "a")), "sets", number)

    def test_exactly_3000_triples_and_more(self):
        self.assertEqual(len(triples_of(skipping_text(137, 0, [124], 3), 2)), 3000)
        self.assert_same(Rule(skipping_text(137, 0, [124], 3)), "sets", 2)
        for text in (skipping_text(136, 47, [139], 2), skipping_text(101, 38, [61, 89, 101, 118, 130], 0)):
            self.assertEqual(len(triples_of(text, 2)), 3001)
            self.assert_raises(same_look, (Rule(text), "sets", 2), TooMany, limit=3000)

    def test_too_many_whatever_the_answer_would_be(self):
        for rule in (ends_rule(), even_rule(), Rule(NONE)):
            for number in (4, 13, 14, 1000):
                self.assert_raises(same_look, (rule, "sets", number), TooMany, limit=3000)


class Wrong(unittest.TestCase, Asking):
    def test_no_rules(self):
        for value in NO_RULES:
            self.assert_raises(never, (value, "last"), NotARule, given=value)
            self.assert_raises(never, (value, "none"), NotARule, given=value)
            self.assert_raises(same_look, (value, "last", 1), NotARule, given=value)
            self.assert_raises(same_look, (value, "windows", -1), NotARule, given=value)

    def test_no_kinds(self):
        for value in NO_KINDS:
            self.assert_raises(never, (even_rule(), value), InvalidKind, given=value)
            self.assert_raises(never, (ends_rule(), value), InvalidKind, given=value)
            self.assert_raises(same_look, (even_rule(), value, 1), InvalidKind, given=value)
            self.assert_raises(same_look, (even_rule(), value, -1), InvalidKind, given=value)

    def test_windows_have_no_same_look(self):
        for number in (0, 1, 2, None):
            self.assert_raises(same_look, (even_rule(), "windows", number), InvalidKind, given="windows")

    def test_no_numbers(self):
        for kind in SAME:
            for value in NO_NUMBERS:
                self.assert_raises(same_look, (even_rule(), kind, value), InvalidNumber, given=value)
        for kind in ("ends", "sets"):
            self.assert_raises(same_look, (even_rule(), kind, 0), InvalidNumber, given=0)


if __name__ == "__main__":
    unittest.main()
