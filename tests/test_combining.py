"""Points [2], [6] and [7]: rules made from others."""

import unittest

from shortlooks import combining
from shortlooks.combining import behind, both, either, otherwise, turned, without
from shortlooks.comparing import alike, least_form
from shortlooks.errors import NotARule, OtherSigns, TooMany
from shortlooks.rules import Rule
from shortlooks.samples import ends_rule, even_rule, free_rule, has_rule
from tests.asking import NO_RULES, Asking
from tests.plain import least_text, pairs_behind
from tests.samples import all_rows, many_words, random_pairs, random_rules, round_rule, tail_rule, written

OF_TWO = (both, either, without, behind)
NONE = written("ab", ["p"], [], ["p", "p"])
ALL = written("ab", ["p"], ["p"], ["p", "p"])
EMPTY = written("ab", ["p", "q"], ["p"], ["q", "q", "q", "q"])
SINGLE = written("a", ["p", "q", "r"], ["q"], ["q", "r", "r"])
# Both have moods that never come and moods that are alike; good are rows that end with a, and rows with an even
# number of a.
MORE_ENDS = written("ab", ["x", "never", "y", "z"], ["never", "y"], ["y", "z", "never", "x", "y", "x", "y", "z"])
MORE_EVEN = written("ab", ["p", "q", "r", "s", "t"], ["p", "r"],
                    ["q", "r", "r", "s", "s", "p", "p", "q", "t", "p"])


def has_split(one, other, row):
    """Whether a row is a good row of the one and a good row of the other put together."""
    return any(one.has(row[:at]) and other.has(row[at:]) for at in range(len(row) + 1))


TOLD_OF_TWO = {
    both: lambda one, other, row: one.has(row) and other.has(row),
    either: lambda one, other, row: one.has(row) or other.has(row),
    without: lambda one, other, row: one.has(row) and not other.has(row),
    behind: has_split,
}
TOLD_OF_ONE = {
    otherwise: lambda rule, row: not rule.has(row),
    turned: lambda rule, row: rule.has(row[::-1]),
}


def lengths_rule(number, signs="a", good=(0,)):
    """The rule whose good rows have lengths that leave one of these numbers behind so many."""
    return Rule(round_rule(number, signs, good))


def single_rule(length, signs="a"):
    """The rule whose good rows have just this length; its least form has two moods more."""
    return Rule(tail_rule(length + 1, 1, [length], signs))


class Made(unittest.TestCase, Asking):
    def assert_made(self, function, arguments, longest, told):
        """The result is a least form, and has the told rows."""
        made = function(*arguments)
        self.assertIs(type(made), Rule)
        self.assertEqual(made.signs, arguments[0].signs)
        self.assertEqual(made.text, least_text(made.text))
        for row in all_rows(made.signs, longest):
            self.assertIs(made.has(row), told(*arguments, row))
        return made


class Examples(Made):
    def test_the_samples_by_two(self):
        rules = [ends_rule(), even_rule(), free_rule(), has_rule(), Rule(NONE), Rule(ALL), Rule(EMPTY),
                 Rule(MORE_ENDS), Rule(MORE_EVEN)]
        for function, told in TOLD_OF_TWO.items():
            for one in rules:
                for other in rules:
                    self.assert_made(function, (one, other), 8, told)

    def test_the_samples_by_one(self):
        for function, told in TOLD_OF_ONE.items():
            for rule in (ends_rule(), even_rule(), free_rule(), has_rule(), Rule(NONE), Rule(ALL), Rule(EMPTY),
                         Rule(MORE_ENDS), Rule(MORE_EVEN), Rule(SINGLE)):
                self.assert_made(function, (rule,), 8, told)

    def test_least_forms_that_are_written_out(self):
        ends, even, free, has = ends_rule(), even_rule(), free_rule(), has_rule()
        none = Rule("signs ab\nmoods maa\ngood\nmaa a maa\nmaa b maa")
        every = Rule("signs ab\nmoods maa\ngood maa\nmaa a maa\nmaa b maa")
        starts = Rule("signs ab\nmoods maa mab mac\ngood mab\nmaa a mab\nmaa b mac\nmab a mab\nmab b mab\n"
                      "mac a mac\nmac b mac")
        self.assert_gives(both, (ends, has), least_form(ends))
        self.assert_gives(either, (ends, has), has)
        self.assert_gives(without, (ends, has), none)
        self.assert_gives(either, (has, otherwise(has)), every)
        self.assert_gives(both, (has, otherwise(has)), none)
        self.assert_gives(otherwise, (Rule(NONE),), every)
        self.assert_gives(otherwise, (Rule(ALL),), none)
        self.assert_gives(turned, (ends,), starts)
        self.assert_gives(turned, (starts,), least_form(ends))
        self.assert_gives(turned, (even,), even)
        self.assert_gives(turned, (free,), free)
        self.assert_gives(behind, (Rule(NONE), Rule(ALL)), none)
        self.assert_gives(behind, (Rule(ALL), Rule(NONE)), none)
        self.assert_gives(behind, (Rule(EMPTY), ends), least_form(ends))
        self.assert_gives(behind, (ends, Rule(EMPTY)), least_form(ends))
        self.assert_gives(behind, (ends, Rule(ALL)), has)
        self.assert_gives(behind, (Rule(ALL), ends), least_form(ends))

    def test_the_order_of_the_two(self):
        ends, even = ends_rule(), even_rule()
        self.assertFalse(alike(without(ends, even), without(even, ends)))
        starts = turned(ends)
        self.assertIs(behind(Rule(EMPTY), starts).has("ab"), True)
        self.assertIs(behind(starts, both(ends, even)).has("ab"), False)
        self.assertIs(behind(both(ends, even), starts).has("aaab"), True)
        self.assertFalse(alike(behind(starts, both(ends, even)), behind(both(ends, even), starts)))

    def test_the_interface_stands_in_the_file(self):
        for name in ("both", "either", "without", "otherwise", "behind", "turned"):
            self.assertEqual(getattr(combining, name).__module__, "shortlooks.combining")


class ManyRules(Made):
    def test_many_pairs(self):
        for function, told in TOLD_OF_TWO.items():
            for left, right in random_pairs(41, 80, 3):
                self.assert_made(function, (Rule(left), Rule(right)), 6, told)

    def test_many_rules(self):
        for function, told in TOLD_OF_ONE.items():
            for parts in random_rules(42, 120, 5):
                self.assert_made(function, (Rule(written(*parts)),), 6, told)

    def test_alike_rules_give_the_same(self):
        pairs = [(Rule(MORE_ENDS), ends_rule()), (Rule(MORE_EVEN), even_rule()), (least_form(ends_rule()), ends_rule())]
        for one, other in pairs:
            for function in (otherwise, turned):
                self.assertTrue(function(one) == function(other))
            for function in OF_TWO:
                for third in (free_rule(), Rule(MORE_EVEN), one):
                    self.assertTrue(function(one, third) == function(other, third))
                    self.assertTrue(function(third, one) == function(third, other))

    def test_how_they_belong_together(self):
        for left, right in random_pairs(43, 60):
            one, other = Rule(left), Rule(right)
            self.assertTrue(otherwise(otherwise(one)) == least_form(one))
            self.assertTrue(turned(turned(one)) == least_form(one))
            self.assertTrue(otherwise(both(one, other)) == either(otherwise(one), otherwise(other)))
            self.assertTrue(without(one, other) == both(one, otherwise(other)))
            self.assertTrue(turned(behind(one, other)) == behind(turned(other), turned(one)))

    def test_nothing_that_is_passed_is_changed(self):
        one, other = Rule(MORE_ENDS), Rule(MORE_EVEN)
        for function in OF_TWO:
            self.assert_gives(function, (one, other), function(Rule(MORE_ENDS), Rule(MORE_EVEN)))
        for function in (otherwise, turned):
            self.assert_gives(function, (one,), function(Rule(MORE_ENDS)))


class TooManyMoods(unittest.TestCase, Asking):
    def assert_moods(self, function, arguments, number):
        made = function(*arguments)
        self.assertEqual(len(made.moods), number)
        self.assert_gives(function, arguments, made)

    def assert_too_many(self, function, arguments, limit=300):
        self.assert_raises(function, arguments, TooMany, limit=limit)

    def test_both_either_and_without(self):
        for signs in ("a", "ab"):
            for function in (both, either, without):
                self.assert_moods(function, (lengths_rule(12, signs), lengths_rule(25, signs)), 300)
                self.assert_moods(function, (lengths_rule(13, signs), lengths_rule(23, signs)), 299)
                self.assert_too_many(function, (lengths_rule(7, signs), lengths_rule(43, signs)))
                self.assert_too_many(function, (lengths_rule(17, signs), lengths_rule(18, signs)))

    def test_a_right_result_with_300_moods(self):
        made = both(lengths_rule(12), lengths_rule(25))
        self.assertEqual([length for length in range(1001) if made.has("a" * length)], [0, 300, 600, 900])
        self.assertEqual(made.text, least_form(lengths_rule(300)).text)
        made = without(lengths_rule(12), lengths_rule(25))
        self.assertEqual([length for length in range(1001) if made.has("a" * length)],
                         [length for length in range(0, 1001, 12) if length % 25])

    def test_great_rules(self):
        one, other = lengths_rule(300, "abc"), lengths_rule(299, "abc")
        for function in (both, either, without):
            self.assert_too_many(function, (one, other))
            self.assert_moods(function, (one, one), 1 if function == without else 300)

    def test_very_many_pairs_and_a_result_with_few_moods(self):
        # All moods of the one but the first are alike, so what counts is whether an a came, and if not, how many b.
        moods = many_words(300)
        goals = [moods[goal] for at in range(300) for goal in (min(at + 1, 299), at)]
        one = Rule(written("ab", moods, moods[1:], goals))
        for number in (298, 299, 300):
            goals = [moods[goal] for at in range(number) for goal in (at, (at + 1) % number)]
            other = Rule(written("ab", moods[:number], moods[:1], goals))
            if number == 300:
                self.assert_too_many(either, (one, other))
            else:
                self.assert_moods(either, (one, other), number + 1)

    def test_otherwise_never_has_too_many(self):
        for rule in (lengths_rule(300, "abc"), single_rule(298), lengths_rule(300, "a", range(0, 300, 7))):
            self.assert_moods(otherwise, (rule,), 300)

    def test_turned(self):
        self.assert_moods(turned, (lengths_rule(300, "abc"),), 300)
        self.assert_moods(turned, (single_rule(298, "ab"),), 300)
        for length, number in ((296, 299), (297, 300), (298, 301)):
            # Good are the row of so many a, and the rows b and ab.
            moods = many_words(length + 2)
            goals = [moods[at + 1] for at in range(length + 1)] + [moods[length + 1]]
            turns = [moods[length]] * 2 + [moods[length + 1]] * length
            rule = Rule(written("ab", moods, [moods[length]], [goal for pair in zip(goals, turns) for goal in pair]))
            self.assertEqual([row for row in ("", "a", "b", "ab", "ba", "bb", "a" * length) if rule.has(row)],
                             ["b", "ab", "a" * length])
            if number > 300:
                self.assert_too_many(turned, (rule,))
            else:
                self.assert_moods(turned, (rule,), number)
                self.assertEqual([turned(rule).has(row) for row in ("b", "ab", "ba", "a" * length)],
                                 [True, False, True, True])

    def test_turned_with_very_many_lots(self):
        # Good are the rows whose sign with this number is a: read from behind, all of the last signs count.
        for number in range(1, 30):
            moods = many_words(number + 2)
            goals = [goal for mood in moods[1:number] for goal in (mood, mood)]
            goals += [moods[number], moods[number + 1]] + [moods[number]] * 2 + [moods[number + 1]] * 2
            rule = Rule(written("ab", moods, [moods[number]], goals))
            if number > 8:
                self.assert_too_many(turned, (rule,))
            else:
                self.assert_moods(turned, (rule,), 2 ** number)

    def test_moods_that_never_come_are_not_counted(self):
        text = written("ab", ["p"] + many_words(299), ["p"] + many_words(299)[:150],
                       ["p", "p"] + [word for at in range(299) for word in (many_words(299)[at * 7 % 299],
                                                                           many_words(299)[at * at % 299])])
        for function in (otherwise, turned):
            self.assert_moods(function, (Rule(text),), 1)
        for function in OF_TWO:
            self.assert_moods(function, (Rule(text), Rule(text)), 1)


class TooManyPairs(unittest.TestCase, Asking):
    def assert_behind(self, one, other, pairs, moods):
        """The number of moods is the number of the limit, below 0, if there are too many."""
        self.assertEqual(pairs_behind(one.text, other.text), pairs)
        if moods < 0:
            self.assert_raises(behind, (one, other), TooMany, limit=-moods)
        else:
            self.assertEqual(len(behind(one, other).moods), moods)

    def all_but(self, number, length):
        return lengths_rule(number, "a", [at for at in range(number) if at != length])

    def test_300_moods(self):
        empty = single_rule(0)
        self.assert_behind(single_rule(298), empty, 300, 300)
        self.assert_behind(empty, single_rule(298), 300, 300)
        self.assert_behind(single_rule(100), single_rule(198), 300, 300)
        self.assert_behind(lengths_rule(300), empty, 301, 300)
        self.assert_behind(single_rule(298), single_rule(1), 301, -300)
        self.assert_behind(single_rule(100), single_rule(199), 301, -300)

    def test_3000_pairs(self):
        one, other = lengths_rule(125), self.all_but(24, 23)
        self.assert_behind(one, other, 3000, 121)
        made = behind(one, other)
        self.assertEqual([length for length in range(1001) if not made.has("a" * length)], [23, 47, 71, 95, 119])
        one = Rule(tail_rule(1, 125, [1]))
        self.assert_behind(one, other, 3001, -3000)

    def test_3000_pairs_and_more_than_300_moods(self):
        self.assert_behind(lengths_rule(125), lengths_rule(24), 3000, -300)
        self.assert_behind(Rule(tail_rule(1, 125, [1])), lengths_rule(24), 3001, -3000)

    def test_pairs_are_those_of_the_least_forms(self):
        one = lengths_rule(250, "a", (0, 125))
        other = lengths_rule(48, "a", [at for at in range(48) if at % 24 != 23])
        self.assert_behind(one, other, 3000, 121)
        self.assertTrue(behind(one, other) == behind(lengths_rule(125), self.all_but(24, 23)))

    def test_moods_from_which_nothing_is_good_are_counted(self):
        # The other rule has one such mood; without it there would be 2640 pairs.
        moods, words = many_words(92), many_words(21)
        goals = [moods[goal] for at in range(92) for goal in ((at + 1) % 92, at)]
        one = Rule(written("ab", moods, moods[:1], goals))
        goals = [words[goal] for at in range(20) for goal in ((at + 1) % 20, at + at // 19)] + [words[20]] * 2
        other = Rule(written("ab", words, words[:19], goals))
        self.assert_behind(one, other, 3100, -3000)

    def test_many_more_pairs(self):
        self.assert_raises(behind, (lengths_rule(299, "abc"), lengths_rule(300, "abc")), TooMany, limit=3000)


class Wrong(unittest.TestCase, Asking):
    def test_no_rules(self):
        for value in NO_RULES:
            for function in (otherwise, turned):
                self.assert_raises(function, (value,), NotARule, given=value)

    def test_no_rules_and_rules_that_do_not_fit(self):
        for function in OF_TWO:
            self.assert_takes_two_rules(function)

    def test_rules_that_do_not_fit_and_would_give_too_many(self):
        one, other = lengths_rule(300, "ab"), lengths_rule(299, "ac")
        for function in OF_TWO:
            self.assert_raises(function, (one, other), OtherSigns)


if __name__ == "__main__":
    unittest.main()
