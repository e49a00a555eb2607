"""Certificates: claims for the checker with papers that it accepts."""

import unittest

from shortlooks import certificates
from shortlooks.certificates import certify_apart, certify_kept, certify_never, certify_within
from shortlooks.checker import accepts
from shortlooks.comparing import alike, least_form, within
from shortlooks.errors import InvalidKind, InvalidNumber, NotARule, TooMany
from shortlooks.keeping import kept, least_look
from shortlooks.nevers import never
from shortlooks.rules import Rule
from shortlooks.samples import ends_rule, even_rule, free_rule, has_rule
from tests.asking import NO_KINDS, NO_NUMBERS, NO_RULES, Asking
from tests.checking import plain_accepts, variants
from tests.samples import random_pairs, random_rules, round_rule, tail_rule, written
from tests.watching import KINDS, chain_text, counting_text, movings_of, reset_text, sparse_texts, watched_texts

NONE = Rule(written("ab", ["p"], [], ["p", "p"]))
ALL = Rule(written("ab", ["p"], ["p"], ["p", "p"]))
# Good are rows that end with a; with moods that never come and moods that are alike.
MORE_ENDS = Rule(written("ab", ["x", "never", "y", "z"], ["never", "y"], ["y", "z", "never", "x", "y", "x", "y", "z"]))
# The mood r never comes, and each sign changes it and s for one another.
MORE_EVEN = Rule(written("ab", ["p", "q", "r", "s"], ["p"], ["q", "p", "p", "q", "s", "s", "r", "r"]))


class Certificates(unittest.TestCase, Asking):
    def assert_certified(self, told, *claim):
        """A pair of this claim and a paper that is accepted."""
        self.assertIs(type(told), tuple)
        self.assertEqual(len(told), 2)
        self.assertEqual(told[0], claim)
        self.assertIs(accepts(told[0], told[1]), True, claim)
        self.assertIs(accepts(claim=told[0], paper=told[1]), True, claim)

    def assert_parts_count(self, told):
        """With one part changed it is accepted just if all clauses hold, and some such changes break one."""
        claim, paper = told
        found = {True: 0, False: 0}
        for other in variants(paper):
            flag = accepts(claim, other)
            self.assertIs(flag, plain_accepts(claim, other), (claim, other))
            found[flag] += 1
        for other in variants(claim):
            flag = accepts(other, paper)
            self.assertIs(flag, plain_accepts(other, paper), (other, paper))
            found[flag] += 1
        self.assertGreater(found[False], 60)


class Apart(Certificates):
    def test_some(self):
        self.assert_gives(certify_apart, (ends_rule(), has_rule()), (("apart", ends_rule().text, has_rule().text), "ab"))
        self.assert_gives(certify_apart, (NONE, ALL), (("apart", NONE.text, ALL.text), ""))
        self.assert_gives(certify_apart, (ends_rule(), least_form(ends_rule())), None)
        self.assert_gives(certify_apart, (MORE_ENDS, ends_rule()), None)

    def test_many_rules(self):
        for one, other in random_pairs(141, 200):
            told = certify_apart(Rule(one), Rule(other))
            if alike(Rule(one), Rule(other)):
                self.assertIsNone(told)
            else:
                self.assert_certified(told, "apart", one, other)

    def test_one_part_changed(self):
        for one, other in random_pairs(142, 8, 3):
            if not alike(Rule(one), Rule(other)):
                self.assert_parts_count(certify_apart(Rule(one), Rule(other)))

    def test_long_rows(self):
        one, other = Rule(chain_text(300, "a")), Rule(written("a", ["p"], [], ["p"]))
        self.assert_gives(certify_apart, (one, other), (("apart", one.text, other.text), "a" * 299))
        self.assert_certified(certify_apart(one, other), "apart", one.text, other.text)
        ring = Rule(round_rule(300, "a", (299,)))
        self.assert_gives(certify_apart, (ring, one), (("apart", ring.text, one.text), "a" * 300))

    def test_wrong(self):
        self.assert_takes_two_rules(certify_apart)


class Within(Certificates):
    def test_some(self):
        claim, paper = certify_within(ends_rule(), has_rule())
        self.assert_certified((claim, paper), "within", ends_rule().text, has_rule().text)
        self.assertEqual(sorted(paper), [("in", "mab"), ("out", "maa"), ("out", "mab")])
        self.assert_gives(certify_within, (NONE, ALL), (("within", NONE.text, ALL.text), (("p", "p"),)))
        self.assert_gives(certify_within, (has_rule(), ends_rule()), None)
        self.assert_gives(certify_within, (ALL, NONE), None)
        self.assert_gives(certify_within, (ends_rule(), has_rule()), (claim, paper))

    def test_many_rules(self):
        found = 0
        for one, other in random_pairs(143, 300):
            told = certify_within(Rule(one), Rule(other))
            if within(Rule(one), Rule(other)):
                found += 1
                self.assert_certified(told, "within", one, other)
            else:
                self.assertIsNone(told)
        self.assertGreater(found, 30)

    def test_one_part_changed(self):
        for one, other in random_pairs(144, 60, 3):
            if within(Rule(one), Rule(other)):
                self.assert_parts_count(certify_within(Rule(one), Rule(other)))

    def test_great_rules(self):
        one, other = Rule(round_rule(299, "ab", (0,))), Rule(round_rule(300, "ab", range(300)))
        told = certify_within(one, other)
        self.assert_certified(told, "within", one.text, other.text)
        self.assertEqual(len(told[1]), 299 * 300)
        self.assertIs(accepts(told[0], told[1][:-1]), False)
        self.assertIs(accepts(told[0], told[1] + told[1][-1:]), False)

    def test_wrong(self):
        self.assert_takes_two_rules(certify_within)


class KeptOnes(Certificates):
    def assert_kept(self, rule, kind, number):
        told = certify_kept(rule, kind, number)
        if kept(rule, kind, number):
            self.assert_certified(told, kind, rule.text, number)
        else:
            self.assertIsNone(told)

    def test_some(self):
        claim, paper = certify_kept(ends_rule(), "last", 1)
        self.assertEqual((claim, sorted(paper)), (("last", ends_rule().text, 1), [("in", "out", 1), ("out", "in", 1)]))
        self.assert_gives(certify_kept, (ends_rule(), "last", 1), (claim, paper))
        self.assert_gives(certify_kept, (ends_rule(), "last", 0), None)
        self.assert_gives(certify_kept, (ends_rule(), "windows", 1), None)
        self.assert_gives(certify_kept, (ALL, "last", 0), (("last", ALL.text, 0), ()))
        self.assert_gives(certify_kept, (NONE, "windows", 1), (("windows", NONE.text, 1), ()))
        self.assert_gives(certify_kept, (even_rule(), "last", 1000), None)

    def test_the_samples(self):
        for rule in (ends_rule(), even_rule(), free_rule(), has_rule(), NONE, ALL, MORE_ENDS, MORE_EVEN):
            for kind, low in (("last", 0), ("windows", 1)):
                for number in (low, 1, 2, 3, 7, 999, 1000):
                    self.assert_kept(rule, kind, number)

    def test_many_rules(self):
        texts = [text for text, kind, size in watched_texts(145, 80)] + sparse_texts(146, 60)
        for text in texts + [written(*parts) for parts in random_rules(147, 80, 5)]:
            for kind in ("last", "windows"):
                number = least_look(Rule(text), kind)
                for asked in (0, 1, 2, 3) if number is None else (number - 1, number, number + 1, 1000):
                    if asked > 0 or asked == 0 and kind == "last":
                        self.assert_kept(Rule(text), kind, asked)

    def test_one_part_changed(self):
        found = 0
        for text, kind, size in watched_texts(148, 60):
            for kind in ("last", "windows"):
                number = least_look(Rule(text), kind)
                if number is not None and len(Rule(text).moods) < 5:
                    found += 1
                    self.assert_parts_count(certify_kept(Rule(text), kind, number))
        self.assertGreater(found, 20)

    def test_moods_that_never_come_and_moods_that_are_alike(self):
        self.assert_certified(certify_kept(MORE_ENDS, "last", 1), "last", MORE_ENDS.text, 1)
        self.assert_certified(certify_kept(MORE_ENDS, "windows", 2), "windows", MORE_ENDS.text, 2)
        moods = {mood for triple in certify_kept(MORE_ENDS, "last", 1)[1] for mood in triple[:2]}
        self.assertLessEqual(moods, {"x", "y", "z"})

    def test_chains_and_resets(self):
        for text, last, windows in ((chain_text(300, "ab"), 299, 300), (reset_text(299, 1, [299]), 299, 300),
                                    (chain_text(300, "a", range(299)), 299, 299)):
            rule = Rule(text)
            self.assertIsNone(certify_kept(rule, "last", last - 1))
            self.assertIsNone(certify_kept(rule, "windows", windows - 1))
            self.assert_certified(certify_kept(rule, "last", last), "last", text, last)
            self.assert_certified(certify_kept(rule, "windows", windows), "windows", text, windows)

    def test_wrong(self):
        for value in NO_RULES:
            self.assert_raises(certify_kept, (value, "last", 1), NotARule, given=value)
            self.assert_raises(certify_kept, (value, "ends", -1), NotARule, given=value)
        for value in NO_KINDS + ["ends", "sets"]:
            self.assert_raises(certify_kept, (ends_rule(), value, 1), InvalidKind, given=value)
            self.assert_raises(certify_kept, (ends_rule(), value, -1), InvalidKind, given=value)
        for kind in ("last", "windows"):
            for value in NO_NUMBERS:
                self.assert_raises(certify_kept, (ends_rule(), kind, value), InvalidNumber, given=value)
        self.assert_raises(certify_kept, (ends_rule(), "windows", 0), InvalidNumber, given=0)


class Nevers(Certificates):
    def assert_never(self, rule, kind):
        told = certify_never(rule, kind)
        self.assert_certified(told, "never", least_form(rule).text, kind)
        self.assertEqual(told[1], never(rule, kind))

    def test_some(self):
        for rule, kinds in ((ends_rule(), ()), (even_rule(), KINDS), (free_rule(), KINDS[:2]), (has_rule(), KINDS[:3]),
                            (MORE_EVEN, KINDS), (MORE_ENDS, ()), (NONE, ()), (ALL, ())):
            for kind in KINDS:
                if kind in kinds:
                    self.assert_never(rule, kind)
                else:
                    self.assert_gives(certify_never, (rule, kind), None)

    def test_all_ways_to_call_it(self):
        for kind in KINDS:
            self.assert_gives(certify_never, (even_rule(), kind),
                              (("never", even_rule().text, kind), never(even_rule(), kind)))

    def test_the_text_of_the_least_form(self):
        for kind in KINDS:
            self.assertEqual(certify_never(MORE_EVEN, kind), certify_never(even_rule(), kind))

    def test_many_rules(self):
        texts = [written(*parts) for parts in random_rules(149, 150, 4)] + sparse_texts(150, 30)
        found = {kind: 0 for kind in KINDS}
        for text in texts:
            rule = Rule(text)
            for kind in KINDS:
                if kind == "sets" and len(movings_of(text)) > 300:
                    self.assert_raises(certify_never, (rule, kind), TooMany, limit=300)
                    continue
                try:
                    number = least_look(rule, kind)
                except TooMany:
                    number = 0
                if number is None:
                    found[kind] += 1
                    self.assert_never(rule, kind)
                else:
                    self.assertIsNone(certify_never(rule, kind))
        self.assertGreater(min(found.values()), 20)

    def test_one_part_changed(self):
        for parts in random_rules(151, 20, 3):
            rule = Rule(written(*parts))
            for kind in KINDS:
                told = certify_never(rule, kind)
                if told is not None and len(least_form(rule).moods) < 4:
                    self.assert_parts_count(told)

    def test_great_rules(self):
        for text in (round_rule(300, "ab", (0,)), counting_text(300), tail_rule(200, 100, [250], "a")):
            for kind in KINDS:
                self.assert_never(Rule(text), kind)
        for kind in KINDS:
            self.assertIsNone(certify_never(Rule(chain_text(300, "ab")), kind))

    def test_movings(self):
        self.assert_never(Rule(reset_text(0, 150, [0])), "sets")
        self.assert_gives(certify_never, (Rule(reset_text(150, 1, [150])), "sets"), None)
        for text in (reset_text(1, 150, [0, 1]), reset_text(0, 151, [0]), reset_text(151, 1, [151])):
            self.assert_raises(certify_never, (Rule(text), "sets"), TooMany, limit=300)

    def test_wrong(self):
        for value in NO_RULES:
            self.assert_raises(certify_never, (value, "last"), NotARule, given=value)
            self.assert_raises(certify_never, (value, "none"), NotARule, given=value)
        for value in NO_KINDS:
            self.assert_raises(certify_never, (even_rule(), value), InvalidKind, given=value)


class Interface(unittest.TestCase):
    def test_it_stands_in_the_file(self):
        for name in ("certify_apart", "certify_within", "certify_kept", "certify_never"):
            self.assertEqual(getattr(certificates, name).__module__, "shortlooks.certificates")

    def test_equal_rules_are_told_of_alike(self):
        for parts in random_rules(153, 20, 4):
            for kind in KINDS:
                self.assertEqual(*[certify_never(Rule(written(*parts)), kind) for time in range(2)])
            for kind in ("last", "windows"):
                self.assertEqual(*[certify_kept(Rule(written(*parts)), kind, 5) for time in range(2)])


if __name__ == "__main__":
    unittest.main()
