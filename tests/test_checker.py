"""Point [15]: the claims for the checker, and what a paper for each of them is."""

import itertools
import random
import unittest

from shortlooks import checker
from shortlooks.checker import accepts
from shortlooks.rules import Rule
from shortlooks.samples import ends_rule, even_rule, free_rule, has_rule
from tests.asking import Asking
from tests.checking import plain_accepts, variants
from tests.plain import coming, good_rows, read
from tests.samples import ENDS, all_rows, many_words, odd_values, random_parts, round_rule, written
from tests.watching import KINDS, chain_text, live_moods, plain_kept, plain_least

HAS, EVEN, FREE = has_rule().text, even_rule().text, free_rule().text
NONE = written("ab", ["p"], [], ["p", "p"])
ALL = written("ab", ["p"], ["p"], ["p", "p"])
OTHER_SIGNS = written("ac", ["p"], [], ["p", "p"])
# The first mood leads to the second, which leads to itself.
STEP = written("a", ["p", "q"], ["q"], ["q", "q"])
# Good are rows that end with a; the mood `far` never comes, and by b it is led to itself.
FAR = written("ab", ["out", "in", "far"], ["in", "far"], ["in", "out", "in", "out", "in", "far"])
# The mood `dead` is not live, and comes.
DEAD = written("ab", ["p", "dead", "q"], ["q"], ["q", "dead", "dead", "dead", "q", "dead"])
ENDS_PAPER = (("in", "out", 1), ("out", "in", 1))
NEVERS = {"last": ("", "a", "b", ""), "ends": ("", "b", "", "a", "b", ""), "windows": ("", "a", "b", "", "a"),
          "sets": ("", "b", "a", "")}
EXAMPLES = (
    (("apart", ENDS, HAS), "ab"),
    (("within", ENDS, HAS), (("out", "maa"), ("in", "mab"), ("out", "mab"))),
    (("last", ENDS, 1), ENDS_PAPER),
    (("windows", ENDS, 2), ENDS_PAPER),
) + tuple((("never", EVEN, kind), NEVERS[kind]) for kind in KINDS)
NO_CLAIMS = odd_values() + [
    "", "apart", ("apart",), ("apart", ENDS), ("apart", ENDS, HAS, 1), ["apart", ENDS, HAS], (None, ENDS, HAS),
    ("Apart", ENDS, HAS), ("apart ", ENDS, HAS), ("", ENDS, HAS), ("alike", ENDS, ENDS), ("kept", ENDS, 1),
    ("ends", ENDS, 1), ("sets", ENDS, 2), ("good", ENDS, "a"), (b"apart", ENDS, HAS), (("apart",), ENDS, HAS),
    ("kept", ENDS, "last", 1), Rule(ENDS)]


class Checks(unittest.TestCase, Asking):
    def assert_accepted(self, claim, paper, flag=True):
        """It is accepted, or not, by all ways to call it; the clauses told once more tell the same."""
        self.assert_gives(accepts, (claim, paper), flag)
        self.assertIs(plain_accepts(claim, paper), flag, (claim, paper))

    def assert_not(self, claim, paper):
        self.assert_accepted(claim, paper, False)


class Claims(Checks):
    def test_the_interface_stands_in_the_file(self):
        self.assertEqual(checker.accepts.__module__, "shortlooks.checker")

    def test_examples(self):
        for claim, paper in EXAMPLES:
            self.assert_accepted(claim, paper)

    def test_no_claims(self):
        for value in NO_CLAIMS:
            for paper in ("ab", ENDS_PAPER, (), "", None):
                self.assert_not(value, paper)

    def test_papers_of_any_kind(self):
        for claim, paper in EXAMPLES:
            for value in odd_values() + [Rule(ENDS), claim, [paper], (paper,)]:
                self.assertIs(accepts(claim, value), False)

    def test_no_texts(self):
        for claim, paper in EXAMPLES:
            for value in odd_values() + ["", "ends", ENDS + "\n", ENDS[:-1], " " + ENDS, Rule(ENDS), [ENDS], (ENDS,)]:
                self.assert_not((claim[0], value, claim[2]), paper)
                self.assertIs(accepts((claim[0], value, value), paper), False)
                if claim[0] in ("apart", "within"):
                    self.assert_not((claim[0], claim[1], value), paper)

    def test_one_part_changed(self):
        for claim, paper in EXAMPLES:
            found = {True: 0, False: 0}
            for other in variants(paper):
                flag = accepts(claim, other)
                self.assertIs(flag, plain_accepts(claim, other))
                found[flag] += 1
            for other in variants(claim):
                flag = accepts(other, paper)
                self.assertIs(flag, plain_accepts(other, paper))
                found[flag] += 1
            self.assertGreater(found[False], 60)


class Apart(Checks):
    def test_rows(self):
        claim = ("apart", ENDS, HAS)
        for row, flag in (("ab", True), ("abb", True), ("babb", True), ("", False), ("a", False), ("b", False),
                          ("ba", False)):
            self.assert_accepted(claim, row, flag)
            self.assert_accepted(("apart", HAS, ENDS), row, flag)

    def test_long_rows(self):
        for length in (999, 1000, 1001, 30000, 59999):
            self.assert_accepted(("apart", ENDS, HAS), "a" + "b" * length)
            self.assert_not(("apart", ENDS, HAS), "b" * length + "a")

    def test_the_empty_row(self):
        self.assert_accepted(("apart", NONE, ALL), "")
        self.assert_not(("apart", NONE, NONE), "")

    def test_no_rows(self):
        for value in odd_values() + ["c", "abc", "ab ", "AB", "ab\n", ("ab",), ["a", "b"]]:
            self.assert_not(("apart", NONE, ALL), value)

    def test_rules_that_do_not_fit(self):
        for row in ("", "a", "ab", "ac"):
            self.assert_not(("apart", ALL, OTHER_SIGNS), row)
            self.assert_not(("apart", OTHER_SIGNS, ALL), row)


class Within(Checks):
    PAIRS = (("out", "maa"), ("in", "mab"), ("out", "mab"))

    def test_in_any_order(self):
        for order in itertools.permutations(self.PAIRS):
            self.assert_accepted(("within", ENDS, HAS), order)

    def test_all_papers_of_these_moods(self):
        pairs = list(itertools.product(("out", "in"), ("maa", "mab")))
        for size in range(5):
            for paper in itertools.combinations(pairs, size):
                self.assert_accepted(("within", ENDS, HAS), paper, set(paper) == set(self.PAIRS))
                self.assert_not(("within", HAS, ENDS), tuple((q, p) for p, q in paper))

    def test_none_twice(self):
        self.assert_not(("within", ENDS, HAS), self.PAIRS + self.PAIRS[:1])

    def test_empty_papers(self):
        self.assert_not(("within", NONE, NONE), ())
        self.assert_accepted(("within", NONE, NONE), (("p", "p"),))

    def test_pairs_that_never_come(self):
        # They may stand there if what they lead to stands there too, and they are good for the first one only if
        # for the second one, too.
        pairs = (("out", "out"), ("in", "in"))
        self.assert_accepted(("within", ENDS, FAR), pairs)
        self.assert_accepted(("within", ENDS, FAR), pairs + (("out", "far"),))
        self.assert_accepted(("within", FAR, ENDS), pairs)
        self.assert_not(("within", FAR, ENDS), pairs + (("far", "out"),))
        self.assert_not(("within", ENDS, FAR), pairs + (("in", "far"), ("in", "out")))

    def test_moods_of_the_other_rule(self):
        self.assert_not(("within", ENDS, HAS), tuple((q, p) for p, q in self.PAIRS))
        self.assert_not(("within", ENDS, HAS), self.PAIRS + (("maa", "maa"),))
        self.assert_not(("within", ENDS, HAS), self.PAIRS + (("out", "out"),))

    def test_no_pairs(self):
        for value in odd_values() + ["", "pp", ["out", "mab"], ("out",), ("out", "mab", "mab"), (None, "mab"),
                                     ("out", True), (["out"], "mab"), ("out", ("mab",)), Rule(ENDS)]:
            for at in range(4):
                self.assert_not(("within", ENDS, HAS), self.PAIRS[:at] + (value,) + self.PAIRS[at:])
        self.assert_not(("within", ENDS, HAS), list(self.PAIRS))
        self.assert_not(("within", ENDS, HAS), dict.fromkeys(self.PAIRS))

    def test_rules_that_do_not_fit(self):
        self.assert_not(("within", ALL, OTHER_SIGNS), (("p", "p"),))
        self.assert_not(("within", OTHER_SIGNS, ALL), (("p", "p"),))


class Last(Checks):
    def test_numbers_at_both_ends(self):
        for number in (1, 2, 6, 7, 999, 1000):
            self.assert_accepted(("last", ENDS, number), ENDS_PAPER)
        self.assert_accepted(("last", ALL, 0), ())
        for value in [value for value in odd_values() if type(value) is not int] + [
                1001, 1002, -1, "1", 10 ** 39, (1,), [1]]:
            self.assert_not(("last", ENDS, value), ENDS_PAPER)
        for value in (-1, 1001, False, None, "0"):
            self.assert_not(("last", ALL, value), ())

    def test_heights_at_both_ends(self):
        for height in (1, 2, 1000):
            self.assert_accepted(("last", ENDS, 1000), (("in", "out", height), ("out", "in", 1)))
        for height in (0, -1, 4, 1001, True, False, None, "1", (1,), [1]):
            self.assert_not(("last", ENDS, 3), (("in", "out", height), ("out", "in", 1)))
        self.assert_not(("last", ENDS, 0), ENDS_PAPER)
        self.assert_not(("last", ENDS, 0), ())

    def test_empty_papers(self):
        for text in (NONE, ALL, written("ab", ["p", "q"], ["q"], ["p", "p", "q", "q"]), round_rule(9, "ab", range(9))):
            for number in (0, 1, 1000):
                self.assert_accepted(("last", text, number), ())
        self.assert_not(("last", ENDS, 1), ())
        self.assert_not(("last", STEP, 1), ())

    def test_each_order_has_a_triple_of_its_own(self):
        self.assert_not(("last", ENDS, 1), ENDS_PAPER[:1])
        self.assert_not(("last", ENDS, 1), ENDS_PAPER[1:])
        self.assert_accepted(("last", ENDS, 1), ENDS_PAPER[::-1])
        self.assert_not(("last", ENDS, 2), ENDS_PAPER + (("in", "out", 2),))
        self.assert_not(("last", ENDS, 1), ENDS_PAPER + ENDS_PAPER[:1])

    def test_the_same_mood_twice(self):
        paper = (("p", "q", 1), ("q", "p", 1))
        self.assert_accepted(("last", STEP, 1), paper)
        self.assert_accepted(("last", STEP, 1), paper + (("p", "p", 1),))
        self.assert_not(("last", STEP, 2), paper + (("q", "q", 1),))
        self.assert_not(("last", STEP, 2), paper + (("p", "p", 2), ("q", "q", 1)))

    def test_heights_that_do_not_fall(self):
        text = chain_text(3, "a")
        p, q, r = many_words(3)
        paper = ((p, q, 2), (q, p, 2), (p, r, 2), (r, p, 2), (q, r, 1), (r, q, 1))
        self.assert_accepted(("last", text, 2), paper)
        self.assert_not(("last", text, 1), paper)
        for at, height in ((0, 1), (1, 1), (2, 1), (3, 1), (4, 2), (5, 2)):
            other = paper[:at] + (paper[at][:2] + (height,),) + paper[at + 1:]
            self.assert_accepted(("last", text, 2), other, False)
            self.assert_accepted(("last", text, 1000), other, False)
        for at in range(6):
            self.assert_not(("last", text, 2), paper[:at] + paper[at + 1:])

    def test_no_heights_for_what_is_not_kept(self):
        moods = read(EVEN)[1]
        pairs = list(itertools.product(moods, repeat=2))
        for heights in itertools.product(range(4), repeat=4):
            paper = tuple((p, q, height) for (p, q), height in zip(pairs, heights) if height)
            self.assert_not(("last", EVEN, 3), paper)

    def test_moods_that_never_come(self):
        # Only the pairs of those that come are asked for, and only they may stand there.
        self.assert_accepted(("last", FAR, 1), ENDS_PAPER)
        for more in (("far", "in", 1), ("in", "far", 1), ("far", "far", 1)):
            self.assert_not(("last", FAR, 1), ENDS_PAPER + (more,))

    def test_no_triples(self):
        for value in odd_values() + ["", "inout", ["in", "in", 1], ("in", "in"), ("in", "in", 1, 1), ("in", "none", 1),
                                     ("none", "in", 1), (None, "in", 1), ("in", ["in"], 1), (1, "in", "in"), Rule(ENDS)]:
            for at in range(3):
                self.assert_not(("last", ENDS, 5), ENDS_PAPER[:at] + (value,) + ENDS_PAPER[at:])
        self.assert_not(("last", ENDS, 1), list(ENDS_PAPER))
        self.assert_not(("last", ENDS, 1), {triple: 1 for triple in ENDS_PAPER})


class Windows(Checks):
    def test_numbers_at_both_ends(self):
        for number in (2, 3, 6, 7, 999, 1000):
            self.assert_accepted(("windows", ENDS, number), ENDS_PAPER)
        for text in (NONE, ALL, written("ab", ["p", "q"], ["p"], ["p", "q", "q", "q"])):
            for number in (1, 2, 1000):
                self.assert_accepted(("windows", text, number), ())
            for value in [value for value in odd_values() if type(value) is not int] + [
                    0, 1001, -1, "1", 10 ** 39, (1,)]:
                self.assert_not(("windows", text, value), ())

    def test_heights_at_both_ends(self):
        for height in (1, 2, 999):
            self.assert_accepted(("windows", ENDS, 1000), (("in", "out", height), ("out", "in", 1)))
        for height in (0, -1, 3, 1000, True, False, None, "1", (1,)):
            self.assert_not(("windows", ENDS, 3), (("in", "out", height), ("out", "in", 1)))
        self.assert_not(("windows", ENDS, 1), ENDS_PAPER)
        self.assert_not(("windows", ENDS, 1), ())

    def test_moods_that_are_not_live(self):
        self.assert_accepted(("windows", DEAD, 2), (("p", "q", 1), ("q", "p", 1)))
        for more in (("p", "dead", 1), ("dead", "p", 1), ("dead", "dead", 1), ("q", "dead", 1)):
            self.assert_not(("windows", DEAD, 2), (("p", "q", 1), ("q", "p", 1), more))
        self.assert_not(("last", DEAD, 2), (("p", "q", 1), ("q", "p", 1)))

    def test_no_triple_and_one_sign_that_leads_just_one_to_a_live_mood(self):
        # p and q are good, but b leads q to a mood that is not live.
        text = written("ab", ["p", "q", "r"], ["p", "q"], ["q", "p", "q", "r", "r", "r"])
        self.assert_not(("windows", text, 5), ())
        self.assert_accepted(("windows", text, 2), (("p", "q", 1), ("q", "p", 1)))
        text = written("ab", ["p", "q", "r"], ["p", "q"], ["q", "p", "r", "p", "r", "r"])
        self.assert_not(("windows", text, 2), ())
        self.assert_accepted(("windows", text, 2), (("p", "q", 1), ("q", "p", 1)))

    def test_moods_that_never_come(self):
        self.assert_accepted(("windows", FAR, 2), ENDS_PAPER)
        for more in (("far", "in", 1), ("in", "far", 1), ("far", "far", 1)):
            self.assert_not(("windows", FAR, 3), ENDS_PAPER + (more,))

    def test_the_same_mood_twice(self):
        paper = (("p", "q", 1), ("q", "p", 1))
        self.assert_accepted(("windows", STEP, 2), paper)
        self.assert_accepted(("windows", STEP, 2), paper + (("p", "p", 1),))
        self.assert_not(("windows", STEP, 3), paper + (("q", "q", 1),))

    def test_each_order_has_a_triple_of_its_own(self):
        self.assert_not(("windows", ENDS, 2), ENDS_PAPER[:1])
        self.assert_not(("windows", ENDS, 2), ENDS_PAPER[1:])
        self.assert_not(("windows", ENDS, 3), ENDS_PAPER + (("in", "out", 2),))

    def test_no_triples(self):
        for value in odd_values() + ["", ["in", "in", 1], ("in", "in"), ("in", "in", 1, 1), ("in", "none", 1),
                                     (None, "in", 1), ("in", ["in"], 1), (1, "in", "in"), Rule(ENDS)]:
            for at in range(3):
                self.assert_not(("windows", ENDS, 5), ENDS_PAPER[:at] + (value,) + ENDS_PAPER[at:])
        self.assert_not(("windows", ENDS, 2), list(ENDS_PAPER))


class Never(Checks):
    def test_x_and_y_are_not_empty(self):
        for kind, places in (("last", (2,)), ("ends", (1, 4)), ("windows", (2,)), ("sets", (1,))):
            for at in places:
                paper = NEVERS[kind][:at] + ("",) + NEVERS[kind][at + 1:]
                self.assert_not(("never", EVEN, kind), paper)

    def test_the_paper_of_another_kind(self):
        for kind, other in itertools.permutations(KINDS, 2):
            self.assert_accepted(("never", EVEN, kind), NEVERS[other], plain_accepts(("never", EVEN, kind), NEVERS[other]))
        for value in odd_values() + ["", "Last", "last ", "kept", ("last",), ["last"]]:
            for kind in KINDS:
                self.assert_not(("never", EVEN, value), NEVERS[kind])

    def test_so_many_rows(self):
        for kind in KINDS:
            for size in range(9):
                for row in ("", "a", "b"):
                    self.assert_accepted(("never", EVEN, kind), (row,) * size,
                                         plain_accepts(("never", EVEN, kind), (row,) * size))
            self.assert_not(("never", EVEN, kind), list(NEVERS[kind]))

    def test_no_rows(self):
        for kind in KINDS:
            for at in range(len(NEVERS[kind])):
                for value in odd_values() + ["c", "bc", "B", "b ", ("b",), ["b"]]:
                    self.assert_not(("never", EVEN, kind), NEVERS[kind][:at] + (value,) + NEVERS[kind][at + 1:])

    def test_all_papers_of_short_rows(self):
        for text in (EVEN, FREE, HAS, ENDS, DEAD):
            found = {kind: 0 for kind in KINDS}
            for kind, size in (("last", 4), ("sets", 4), ("windows", 5), ("sets", 5)):
                for paper in itertools.product(("", "a", "b"), repeat=size):
                    flag = accepts(("never", text, kind), paper)
                    self.assertIs(flag, plain_accepts(("never", text, kind), paper))
                    found[kind] += flag
            for kind in found:
                if kind != "ends" and found[kind]:
                    self.assertIsNone(plain_least(text, kind, 3))
        for paper in itertools.product(("", "a", "b"), repeat=6):
            self.assertIs(accepts(("never", HAS, "ends"), paper), plain_accepts(("never", HAS, "ends"), paper))

    def test_windows_ask_for_the_order(self):
        # z leads p to a good mood, and q not; w leads q to a good one.
        self.assert_accepted(("never", EVEN, "windows"), ("", "a", "b", "", "a"))
        self.assert_not(("never", EVEN, "windows"), ("a", "", "b", "", "a"))
        self.assert_accepted(("never", EVEN, "windows"), ("a", "", "b", "a", ""))
        self.assert_not(("never", EVEN, "windows"), ("", "a", "b", "", ""))
        self.assert_accepted(("never", EVEN, "last"), ("a", "", "b", ""))

    def test_long_rows(self):
        self.assert_accepted(("never", EVEN, "last"), ("b" * 1001, "a" * 1001, "b" * 2001, "a" * 4000))
        self.assert_accepted(("never", EVEN, "ends"), ("b" * 1001, "aa" * 1001, "", "a", "bb" * 1001, "b" * 5000))
        self.assert_accepted(("never", EVEN, "windows"), ("b" * 1001, "a" * 1001, "b" * 2001, "aa" * 900, "a" * 1001))
        self.assert_accepted(("never", EVEN, "sets"), ("b" * 1001, "aa" * 1001, "a" * 1001, "b" * 50000))
        self.assert_not(("never", EVEN, "last"), ("b" * 1001, "a" * 1001, "a" * 2001, "a" * 4000))

    def test_moods_that_never_come(self):
        # By b the last two moods, which never come, are changed for one another: this counts for sets alone.
        text = written("ab", ["p", "q", "r", "s"], ["p"], ["q", "p", "p", "q", "r", "s", "s", "r"])
        for kind in KINDS:
            self.assert_accepted(("never", EVEN, kind), NEVERS[kind])
            self.assert_accepted(("never", text, kind), NEVERS[kind], kind != "sets")
        self.assert_accepted(("never", text, "sets"), ("", "bb", "a", ""))

    def test_alike_moods_are_others(self):
        # The mood to which x leads must be the very same one.
        text = written("ab", ["p", "q", "r", "s"], ["p", "r"], ["q", "r", "r", "s", "s", "p", "p", "q"])
        self.assert_not(("never", text, "last"), ("", "a", "b", ""))
        self.assert_accepted(("never", text, "last"), ("", "a", "bb", ""))

    def test_sets_with_two_rows_between(self):
        order = written("abc", ["p", "q", "r", "s"], ["r"], ["q", "s", "p", "q", "r", "q", "r", "r", "r", "s", "s", "s"])
        self.assert_accepted(("never", order, "sets"), ("", "c", "a", "b", ""))
        self.assert_accepted(("never", order, "sets"), ("", "c", "b", "a", "c"))
        self.assert_not(("never", order, "sets"), ("", "c", "a", "a", ""))
        self.assert_not(("never", order, "sets"), ("", "c", "a", ""))
        self.assert_not(("never", order, "sets"), ("a", "c", "a", "b", ""))


class Truth(unittest.TestCase):
    def test_what_is_accepted_is_true(self):
        """Papers that somebody wrote at random: what is accepted is what the clauses tell, and is so."""
        source = random.Random(131)
        counts = {True: 0, False: 0}
        for step in range(4000):
            text = written(*random_parts(source, 3, source.choice(["a", "ab"])))
            kind = source.choice(["last", "windows"])
            number = source.randint(0 if kind == "last" else 1, 3)
            moods = sorted(coming(text)) if kind == "last" else sorted(set(coming(text)) & live_moods(text))
            paper = tuple((p, q, source.randint(1, 3)) for p in moods for q in moods
                          if source.random() < (0.9 if p != q else 0.1))
            flag = accepts((kind, text, number), paper)
            self.assertIs(flag, plain_accepts((kind, text, number), paper))
            counts[flag] += 1
            if flag:
                self.assertTrue(plain_kept(text, kind, number))
        self.assertGreater(min(counts.values()), 300)

    def test_within_and_apart(self):
        source = random.Random(132)
        counts = {True: 0, False: 0}
        for step in range(2000):
            one, other = [written(*random_parts(source, 2, "ab")) for side in range(2)]
            pairs = tuple(pair for pair in itertools.product(read(one)[1], read(other)[1]) if source.random() < 0.8)
            flag = accepts(("within", one, other), pairs)
            self.assertIs(flag, plain_accepts(("within", one, other), pairs))
            counts[flag] += 1
            rows = list(all_rows("ab", 5))
            if flag:
                self.assertLessEqual(set(good_rows(one, rows)), set(good_rows(other, rows)))
            apart = [row for row in rows[:10] if accepts(("apart", one, other), row)]
            self.assertEqual(apart, [row for row in rows[:10] if len(good_rows(one, [row]) + good_rows(other, [row])) == 1])
        self.assertGreater(min(counts.values()), 100)


if __name__ == "__main__":
    unittest.main()
