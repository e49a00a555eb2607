"""Least lots of changes of a rule that make wishes come true."""

import itertools
import random
import unittest

from shortlooks import mends
from shortlooks.errors import InvalidChanges, InvalidWishes, NotARule
from shortlooks.mends import mending
from shortlooks.rules import Rule
from shortlooks.samples import ends_rule, even_rule, free_rule, has_rule
from tests.asking import NO_RULES, Asking
from tests.plain import read
from tests.samples import many_words, odd_values, random_parts, round_rule, written
from tests.watching import chain_text, is_good, plain_kept, plain_least

KINDS = ("last", "ends", "windows")
WISHES = (("kept", "last", 0), ("kept", "last", 1), ("kept", "ends", 1), ("kept", "windows", 2), ("never", "last"),
          ("never", "ends"), ("never", "windows"), ("good", ""), ("good", "ab"), ("bad", "b"), ("bad", "ba"))
NO_WISHES = odd_values() + [
    "", "good", ("good",), ("good", "a", "b"), ["good", "a"], ("Good", "a"), ("good ", "a"), ("", "a"), (None, "a"),
    ("good", "A"), ("good", "a b"), ("good", "a" * 1001), ("bad", "a\n"), ("bad", ("a",)), ("bad", b"a"), ("bad",),
    ("kept", "last"), ("kept", "last", 7), ("kept", "last", -1), ("kept", "last", True), ("kept", "last", False),
    ("kept", "last", "1"), ("kept", "last", None), ("kept", "ends", 0), ("kept", "ends", 7), ("kept", "windows", 0),
    ("kept", "windows", 7), ("kept", "sets", 1), ("kept", "sets", 0), ("kept", "Last", 1), ("kept", None, 1),
    ("kept", ["last"], 1), ["kept", "last", 1], ("kept", "last", 1, 1), ("kept", 1, "last"), ("never", "sets"),
    ("never", "last", 1), ("never",), ("never", None), ("never", ("last",)), ["never", "last"], ("alike", "a"),
    ("alike", "a", "b"), ("within", "a", "b"), ("kept", "a", "last", 1), ("never", "a", "last"), ("good", 1),
    (("good", "a"),), Rule(ends_rule().text)]
NO_CHANGES = [value for value in odd_values() if type(value) is not tuple] + [
    (), ("a",), (("a",), [None, {"a": [1]}]),
    "", "out", ["out"], ["out", "a", "in"], ("in", "a"), ("in", "a", "in", "in"), ("none",), ("Out",), ("out ",), ("",),
    ("none", "a", "in"), ("in", "c", "in"), ("in", "ab", "in"), ("in", "", "in"), ("in", "a", "none"),
    ("in", "a", None), ("in", None, "in"), (None, "a", "in"), (None,), (True,), (("out",),), (["out"],), (1,),
    ("a", "in", "in"), ("in", b"a", "in"), ("in", ["a"], "in"), ("in", "a", ["in"]), Rule(ends_rule().text)]


def changed_text(text, changes):
    """The text of the rule with these changes."""
    signs, moods, good, goals = read(text)
    for change in changes:
        if len(change) == 1:
            good = [mood for mood in moods if (mood in good) != (mood == change[0])]
        else:
            goals[change[:2]] = change[2]
    return written(signs, moods, good, [goals[mood, sign] for mood in moods for sign in signs])


def plain_holds(text, wish):
    word, *rest = wish
    if word == "kept":
        return plain_kept(text, *rest)
    if word == "never":
        moods = len(read(text)[1])
        return plain_least(text, rest[0], moods * moods) is None
    return (set(rest[0]) <= set(read(text)[0]) and is_good(text, rest[0])) == (word == "good")


def plain_mending(text, wishes, changes):
    """All lots with which the wishes hold, without those that have a smaller part of this sort."""
    lots = [lot for size in range(len(changes) + 1) for lot in itertools.combinations(range(len(changes)), size)]
    right = [lot for lot in lots
             if all(plain_holds(changed_text(text, [changes[at] for at in lot]), wish) for wish in wishes)]
    return tuple(lot for lot in right if not any(set(other) < set(lot) for other in right))


class Mending(unittest.TestCase, Asking):
    def test_the_interface_stands_in_the_file(self):
        self.assertEqual(mends.mending.__module__, "shortlooks.mends")

    def test_no_wish(self):
        for changes in ((), (("out",),), (("out",), ("in", "a", "out"))):
            self.assert_gives(mending, (ends_rule(), (), changes), ((),))

    def test_no_change(self):
        self.assert_gives(mending, (ends_rule(), (("good", "a"),), ()), ((),))
        self.assert_gives(mending, (ends_rule(), (("bad", "a"),), ()), ())
        self.assert_gives(mending, (ends_rule(), (("good", "a"), ("kept", "last", 0)), ()), ())

    def test_the_wishes_hold_as_it_is(self):
        changes = (("out",), ("in",), ("in", "a", "out"))
        self.assert_gives(mending, (ends_rule(), (("good", "a"), ("bad", "b"), ("kept", "last", 1)), changes), ((),))

    def test_one_change_or_the_other(self):
        changes = (("in", "b", "in"), ("out",), ("in",))
        self.assert_gives(mending, (ends_rule(), (("good", "ab"),), changes), ((0,), (1,)))
        self.assert_gives(mending, (ends_rule(), (("good", "ab"), ("bad", "")), changes), ((0,),))
        self.assert_gives(mending, (ends_rule(), (("good", ""),), changes), ((1,),))
        self.assert_gives(mending, (ends_rule(), (("good", ""), ("bad", "a")), changes), ((1, 2),))
        self.assert_gives(mending, (ends_rule(), (("kept", "last", 0),), changes), ((1,), (2,)))
        self.assert_gives(mending, (ends_rule(), (("never", "last"),), changes), ((0,),))

    def test_lots_of_several_lengths(self):
        changes = (("out", "b", "in"), ("in", "b", "in"), ("out",), ("in",))
        wishes = (("kept", "last", 0),)
        self.assertEqual(mending(ends_rule(), wishes, changes), plain_mending(ends_rule().text, wishes, changes))
        self.assertEqual(mending(ends_rule(), (("good", "b"), ("bad", "")), changes), ((0,),))

    def test_there_is_no_such_lot(self):
        changes = (("out",), ("in",))
        self.assert_gives(mending, (ends_rule(), (("good", "a"), ("bad", "a")), changes), ())
        self.assert_gives(mending, (ends_rule(), (("never", "last"),), changes), ())

    def test_changes_that_change_nothing(self):
        nothing = (("out", "a", "in"), ("out", "b", "out"), ("in", "a", "in"), ("in", "b", "out"))
        self.assert_gives(mending, (ends_rule(), (("good", "a"),), nothing), ((),))
        self.assert_gives(mending, (ends_rule(), (("bad", "a"),), nothing), ())
        self.assert_gives(mending, (ends_rule(), (("bad", "a"),), nothing + (("in",),)), ((4,),))

    def test_six_and_seven_changes(self):
        moods = many_words(7)
        rule = Rule(chain_text(7, "a"))
        changes = tuple((mood,) for mood in moods)
        wishes = tuple(("good", "a" * size) for size in (0, 2, 5))
        self.assert_gives(mending, (rule, wishes, changes[:6]), ((0, 2, 5),))
        self.assert_raises(mending, (rule, wishes, changes), InvalidChanges, index=6)
        all_good = tuple(("good", "a" * size) for size in range(7))
        self.assert_gives(mending, (rule, all_good, changes[:6]), ((0, 1, 2, 3, 4, 5),))
        self.assert_gives(mending, (rule, (("kept", "last", 0),), changes[:6]), ((0, 1, 2, 3, 4, 5),))

    def test_numbers_at_both_ends(self):
        rule = Rule(chain_text(7, "a"))
        turned = (many_words(7)[6],)
        for kind, low in (("last", 0), ("ends", 1), ("windows", 1)):
            for number in (low, 6):
                told = plain_mending(rule.text, (("kept", kind, number),), (turned,))
                self.assert_gives(mending, (rule, (("kept", kind, number),), (turned,)), told)
        self.assertEqual(mending(rule, (("kept", "last", 6),), (turned,)), ((),))
        self.assertEqual(mending(rule, (("kept", "windows", 6),), (turned,)), ((0,),))

    def test_rows_with_other_signs_than_those_of_the_rule(self):
        self.assert_gives(mending, (ends_rule(), (("bad", "c"), ("bad", "xyz")), (("out",),)), ((),))
        self.assert_gives(mending, (ends_rule(), (("good", "c"),), (("out",), ("in",))), ())

    def test_rows_at_their_bounds(self):
        for row in ("", "b" * 1000):
            self.assert_gives(mending, (ends_rule(), (("good", row),), (("in",), ("out",))), ((1,),))

    def test_many_rules(self):
        source = random.Random(121)
        sizes = set()
        for step in range(250):
            rule = Rule(written(*random_parts(source, 4, source.choice(["a", "ab", "ab"]))))
            places = [(mood, sign) for mood in rule.moods for sign in rule.signs] + [(mood,) for mood in rule.moods]
            chosen = source.sample(places, min(len(places), source.randint(0, 6)))
            changes = tuple(place if len(place) == 1 else place + (source.choice(rule.moods),) for place in chosen)
            wishes = tuple(source.choices(WISHES, k=source.randint(0, 4)))
            told = mending(rule, wishes, changes)
            self.assertEqual(told, plain_mending(rule.text, wishes, changes), (rule.text, wishes, changes))
            sizes.update(len(lot) for lot in told)
        self.assertGreaterEqual(sizes, {0, 1, 2, 3})

    def test_the_samples(self):
        for rule in (even_rule(), free_rule(), has_rule()):
            first, other = rule.moods[:2]
            changes = ((first, "a", first), (other, "a", other), (other, "b", first), (first,), (other,))
            for wish in WISHES:
                self.assertEqual(mending(rule, (wish,), changes), plain_mending(rule.text, (wish,), changes))

    def test_a_ring_of_300_moods(self):
        moods = many_words(300)
        rule = Rule(round_rule(300, "a", (0,)))
        changes = ((moods[299], "a", moods[299]), (moods[0],))
        self.assert_gives(mending, (rule, (("kept", "last", 0),), changes), ((1,),))
        self.assertEqual(mending(rule, (("kept", "last", 1),), changes), ((0,), (1,)))


class Wrong(unittest.TestCase, Asking):
    def test_no_rules(self):
        for value in NO_RULES:
            self.assert_raises(mending, (value, (), ()), NotARule, given=value)
            self.assert_raises(mending, (value, None, None), NotARule, given=value)

    def test_wishes_that_are_no_tuple(self):
        for value in odd_values() + ["", "good", [("good", "a")], Rule(ends_rule().text)]:
            if type(value) is not tuple:
                self.assert_raises(mending, (ends_rule(), value, ()), InvalidWishes, index=None)
                self.assert_raises(mending, (ends_rule(), value, None), InvalidWishes, index=None)

    def test_each_element_that_is_no_wish(self):
        for value in NO_WISHES:
            for at in (0, 1, 3):
                wishes = (("good", "a"),) * at + (value, None, ("bad", "b"))
                self.assert_raises(mending, (ends_rule(), wishes, ()), InvalidWishes, index=at)
            self.assert_raises(mending, (ends_rule(), (value,), None), InvalidWishes, index=0)

    def test_one_wish_is_no_tuple_of_wishes(self):
        self.assert_raises(mending, (ends_rule(), ("good", "a"), ()), InvalidWishes, index=0)

    def test_changes_that_are_no_tuple(self):
        for value in odd_values() + ["", "out", [("out",)], Rule(ends_rule().text)]:
            if type(value) is not tuple:
                self.assert_raises(mending, (ends_rule(), (("good", "a"),), value), InvalidChanges, index=None)

    def test_each_element_that_is_no_change(self):
        for value in NO_CHANGES:
            for at, ahead in enumerate(((), (("out",),), (("out",), ("in", "b", "in")))):
                changes = ahead + (value, None, ("in",))
                self.assert_raises(mending, (ends_rule(), (), changes), InvalidChanges, index=at)

    def test_one_change_is_no_tuple_of_changes(self):
        self.assert_raises(mending, (ends_rule(), (), ("out", "a", "in")), InvalidChanges, index=0)
        self.assert_raises(mending, (ends_rule(), (), ("out",)), InvalidChanges, index=0)

    def test_changes_of_the_same_place(self):
        for changes, index in (((("out",), ("out",)), 1), ((("out",), ("in",), ("in",), ("out",)), 2),
                               ((("out", "a", "in"), ("out", "a", "in")), 1),
                               ((("out", "a", "in"), ("out", "b", "in"), ("out", "a", "out")), 2),
                               ((("out", "a", "in"), ("in",), None, ("in",)), 2),
                               ((("out", "a", "in"), ("in",), ("in",), None), 2)):
            self.assert_raises(mending, (ends_rule(), (), changes), InvalidChanges, index=index)
        # The same mood may be turned and led from, and by both signs.
        changes = (("out",), ("out", "a", "in"), ("out", "b", "in"), ("in", "a", "in"), ("in", "b", "in"), ("in",))
        self.assertEqual(mending(ends_rule(), (), changes), ((),))

    def test_the_seventh_change(self):
        rule = Rule(round_rule(9, "a", (0,)))
        changes = tuple((mood,) for mood in rule.moods)
        for more in (changes[6:], (None,), changes[:1], changes[6:7] + (None,)):
            self.assert_raises(mending, (rule, (), changes[:6] + more), InvalidChanges, index=6)
        self.assert_raises(mending, (rule, (), changes[:5] + (None,) + changes[6:]), InvalidChanges, index=5)


if __name__ == "__main__":
    unittest.main()
