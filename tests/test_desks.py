"""Point [14] and desks: rules under names, claims that hold, changes taken back, and trials."""

import copy
import random
import unittest

from shortlooks import desks
from shortlooks.comparing import parting
from shortlooks.desks import Desk
from shortlooks.errors import (Broken, InUse, InvalidClaim, InvalidIndex, InvalidName, NotARule, NothingToUndo, TooMany,
                               UnknownName)
from shortlooks.hulls import extra
from shortlooks.keeping import kept, least_look
from shortlooks.nevers import same_look
from shortlooks.rules import Rule
from shortlooks.samples import ends_rule, even_rule, free_rule, has_rule
from tests.asking import NO_RULES, Asking, ways
from tests.plain import good_rows
from tests.samples import all_rows, odd_values, random_parts, written
from tests.watching import KINDS, is_good, look_text, plain_kept, plain_least, triples_of

NONE = Rule(written("ab", ["p"], [], ["p", "p"]))
ALL = Rule(written("ab", ["p"], ["p"], ["p", "p"]))
OTHER_SIGNS = Rule(written("ac", ["p"], ["p"], ["p", "p"]))
ONE_SIGN = Rule(written("a", ["p"], [], ["p"]))
NO_NAMES = odd_values() + ["", "A", "a b", "a\n", "a1", "-", "ninewords", "a" * 9, "a" * 1000, "\n", " ", ("a",), ["a"]]


class Stopped(Exception):
    """Ends the rows of a trial."""


def seen(desk):
    """What a desk tells of itself."""
    return desk.names, [desk.rule(name) for name in desk.names], desk.claims, desk.changes


def history(desk):
    """What a desk tells of itself, and after each change is taken back."""
    twin = copy.deepcopy(desk)
    found = [seen(twin)]
    while twin.changes:
        twin.undo()
        found.append(seen(twin))
    return found


def filled():
    """A desk with the samples and a claim of each sort."""
    desk = Desk()
    for name, rule in (("ends", ends_rule()), ("even", even_rule()), ("free", free_rule()), ("has", has_rule())):
        desk.put(name, rule)
    for claim in (("within", "ends", "has"), ("alike", "ends", "ends"), ("kept", "ends", "last", 1),
                  ("never", "even", "windows"), ("good", "has", "bab"), ("bad", "free", "baa")):
        desk.claim(claim)
    return desk


class Desks(unittest.TestCase, Asking):
    def assert_refused(self, desk, method, arguments, error, **told):
        """The method raises just this error by all ways to call it, and the desk is as it was."""
        before = history(desk)
        self.assert_raises(method, arguments, error, **told)
        self.assertEqual(history(desk), before)

    def assert_broken(self, desk, method, arguments, index, shown):
        """The method raises Broken by all ways to call it, and the desk is as it was."""
        before = history(desk)
        for call in ways(method, arguments):
            with self.assertRaises(Broken) as caught:
                call()
            self.assertEqual(list(vars(caught.exception)), ["index", "shown"])
            self.assertIs(type(caught.exception.index), int)
            self.assertEqual(caught.exception.index, index)
            self.assertIs(type(caught.exception.shown), type(shown))
            self.assertEqual(caught.exception.shown, shown)
        self.assertEqual(history(desk), before)

    def assert_done(self, made, method, arguments):
        """All ways to call the method on a fresh desk return None and lead to the same; the last desk is returned."""
        found = []
        for at in range(len(list(ways(getattr(made(), method), arguments)))):
            desk = made()
            before = history(desk)
            self.assertIsNone(list(ways(getattr(desk, method), arguments))[at]())
            self.assertEqual(history(desk)[1:], before)
            self.assertEqual(desk.changes, len(before))
            found.append(seen(desk))
        self.assertTrue(all(one == found[0] for one in found))
        return desk


class Putting(Desks):
    def test_the_interface_stands_in_the_file(self):
        self.assertEqual(Desk.__module__, "shortlooks.desks")
        self.assertIs(desks.Desk, Desk)
        for name in ("put", "rule", "drop", "claim", "lift", "undo", "names", "claims", "changes", "trial", "tried"):
            self.assertIn(name, vars(Desk))

    def test_a_new_desk(self):
        desk = Desk()
        self.assertEqual(seen(desk), ((), [], (), 0))
        self.assertIs(type(desk.names), tuple)
        self.assertIs(type(desk.claims), tuple)
        self.assertTrue(desk)
        self.assertTrue(desk == desk)
        self.assertFalse(desk != desk)
        for value in [Desk(), None, ()]:
            self.assertFalse(desk == value)
            self.assertTrue(desk != value)

    def test_names_of_one_and_of_eight_letters(self):
        for name in ("a", "z", "abcdefgh", "zzzzzzzz", "ends"):
            desk = self.assert_done(Desk, "put", (name, ends_rule()))
            self.assertEqual(desk.names, (name,))
            self.assert_gives(desk.rule, (name,), ends_rule())

    def test_names_are_ascending(self):
        desk = Desk()
        for name in ("b", "ab", "c", "a", "abc", "aa"):
            desk.put(name, ends_rule())
        self.assertEqual(desk.names, ("a", "aa", "ab", "abc", "b", "c"))

    def test_in_the_place_of_another_rule(self):
        desk = Desk()
        desk.put("a", ends_rule())
        desk.put("b", has_rule())
        desk.put("a", even_rule())
        self.assertEqual(seen(desk), (("a", "b"), [even_rule(), has_rule()], (), 3))
        desk.put("a", even_rule())
        self.assertEqual(desk.changes, 4)
        self.assertEqual([len(rules) for names, rules, claims, changes in history(desk)], [2, 2, 2, 1, 0])
        self.assertEqual(history(desk)[2][1], [ends_rule(), has_rule()])

    def test_the_same_rule_put_again(self):
        desk = self.assert_done(filled, "put", ("ends", ends_rule()))
        self.assertEqual(desk.rule("ends"), ends_rule())

    def test_wrong_names_and_rules(self):
        for made in (Desk, filled):
            for value in NO_NAMES:
                desk = made()
                self.assert_refused(desk, desk.put, (value, ends_rule()), InvalidName, given=value)
                self.assert_refused(desk, desk.put, (value, None), InvalidName, given=value)
            for value in NO_RULES:
                desk = made()
                self.assert_refused(desk, desk.put, ("ends", value), NotARule, given=value)

    def test_broken_comes_last(self):
        desk = filled()
        self.assert_refused(desk, desk.put, ("Ends", even_rule()), InvalidName, given="Ends")
        self.assert_broken(desk, desk.put, ("ends", even_rule()), 0, "")

    def test_the_first_claim_that_does_not_hold_is_told(self):
        for rule, index, shown in ((has_rule(), 2, same_look(has_rule(), "last", 1)), (NONE, None, None),
                                   (free_rule(), 0, ""), (OTHER_SIGNS, 0, None)):
            desk = filled()
            if index is None:
                desk.put("ends", rule)
                self.assertEqual(desk.rule("ends"), rule)
            else:
                self.assert_broken(desk, desk.put, ("ends", rule), index, shown)
        self.assert_broken(desk, desk.put, ("has", OTHER_SIGNS), 0, None)
        self.assert_broken(desk, desk.put, ("has", ends_rule().turn("in")), 0, "a")
        self.assert_broken(desk, desk.put, ("even", has_rule().turn("mab")), 3, 1)
        self.assert_broken(desk, desk.put, ("free", ALL), 5, None)


class Dropping(Desks):
    def test_dropped(self):
        def made():
            desk = filled()
            desk.put("free", free_rule())
            desk.put("more", ALL)
            return desk

        desk = self.assert_done(made, "drop", ("more",))
        self.assertEqual(desk.names, ("ends", "even", "free", "has"))
        self.assert_refused(desk, desk.rule, ("more",), UnknownName, given="more")

    def test_in_use(self):
        for name, index in (("ends", 0), ("even", 3), ("free", 5), ("has", 0)):
            desk = filled()
            self.assert_refused(desk, desk.drop, (name,), InUse, index=index)
        desk.lift(5)
        desk.drop("free")
        desk.lift(0)
        self.assert_refused(desk, desk.drop, ("ends",), InUse, index=0)
        self.assert_refused(desk, desk.drop, ("has",), InUse, index=3)

    def test_a_name_in_the_place_of_the_other(self):
        desk = Desk()
        desk.put("a", ends_rule())
        desk.put("b", ends_rule())
        desk.claim(("good", "a", "a"))
        desk.claim(("alike", "a", "b"))
        self.assert_refused(desk, desk.drop, ("b",), InUse, index=1)

    def test_a_row_or_a_kind_is_no_name(self):
        desk = filled()
        desk.put("bab", ends_rule())
        desk.put("last", ends_rule())
        desk.put("kept", ends_rule())
        for name in ("bab", "last", "kept"):
            desk.drop(name)
            self.assertNotIn(name, desk.names)

    def test_unknown_names(self):
        for value in NO_NAMES + ["end", "endss", "x", "none"]:
            for desk in (Desk(), filled()):
                self.assert_refused(desk, desk.rule, (value,), UnknownName, given=value)
                self.assert_refused(desk, desk.drop, (value,), UnknownName, given=value)


class Claiming(Desks):
    def assert_claimed(self, claim):
        self.assertEqual(self.assert_done(filled, "claim", (claim,)).claims[-1:], (claim,))

    def assert_not_claimed(self, claim, shown):
        desk = filled()
        self.assert_broken(desk, desk.claim, (claim,), 6, shown)

    def test_alike_and_within(self):
        self.assert_claimed(("alike", "ends", "ends"))
        self.assert_claimed(("within", "ends", "has"))
        self.assert_not_claimed(("alike", "ends", "has"), "ab")
        self.assert_not_claimed(("within", "has", "ends"), "ab")
        self.assert_not_claimed(("within", "even", "free"), "aa")
        self.assert_not_claimed(("alike", "even", "free"), "a")

    def test_rules_that_do_not_fit(self):
        desk = filled()
        desk.put("other", OTHER_SIGNS)
        for claim in (("alike", "ends", "other"), ("within", "other", "ends"), ("within", "ends", "other")):
            self.assert_broken(desk, desk.claim, (claim,), 6, None)

    def test_kept(self):
        for name, rule in (("ends", ends_rule()), ("even", even_rule()), ("free", free_rule()), ("has", has_rule())):
            for kind in KINDS:
                for number in range(0 if kind == "last" else 1, 7):
                    claim = ("kept", name, kind, number)
                    if kind == "sets" and number > 3:
                        self.assert_not_claimed(claim, None)
                    elif kept(rule, kind, number):
                        self.assert_claimed(claim)
                    elif kind in ("last", "ends"):
                        self.assert_not_claimed(claim, same_look(rule, kind, number))
                    elif kind == "windows" and number < 6:
                        self.assert_not_claimed(claim, extra(rule, number))
                    else:
                        self.assert_not_claimed(claim, None)

    def test_windows_with_5_and_6(self):
        self.assert_not_claimed(("kept", "has", "windows", 5), "bbbb")
        self.assert_not_claimed(("kept", "has", "windows", 6), None)
        self.assert_claimed(("kept", "free", "windows", 6))

    def test_a_kept_with_sets_that_has_too_many_triples(self):
        self.assert_raises(kept, (ends_rule(), "sets", 4), TooMany, limit=3000)
        self.assert_not_claimed(("kept", "ends", "sets", 4), None)
        self.assert_claimed(("kept", "ends", "sets", 3))
        three = Rule(written("abc", ["p"], ["p"], ["p", "p", "p"]))
        desk = Desk()
        desk.put("a", ends_rule())
        desk.claim(("kept", "a", "sets", 3))
        self.assert_broken(desk, desk.put, ("a", three), 0, None)
        desk.put("a", Rule(written("c", ["p"], ["p"], ["p"])))
        desk.claim(("kept", "a", "sets", 6))

    def test_never(self):
        for name, rule in (("ends", ends_rule()), ("even", even_rule()), ("free", free_rule()), ("has", has_rule())):
            for kind in KINDS[:3]:
                number = least_look(rule, kind)
                if number is None:
                    self.assert_claimed(("never", name, kind))
                else:
                    self.assert_not_claimed(("never", name, kind), number)

    def test_never_shows_the_least_look_also_beyond_6(self):
        desk = Desk()
        desk.put("a", Rule(look_text("last", 8, "a", lambda look: look[1])))
        for kind, number in (("last", 8), ("ends", 4), ("windows", 8)):
            self.assert_broken(desk, desk.claim, (("never", "a", kind),), 0, number)
        desk.put("a", NONE)
        self.assert_broken(desk, desk.claim, (("never", "a", "last"),), 0, 0)

    def test_good_and_bad(self):
        for row, flag in (("", False), ("a", True), ("ab", False), ("b" * 999 + "a", True), ("a" * 1000, True)):
            words = ("good", "bad") if flag else ("bad", "good")
            self.assert_claimed((words[0], "ends", row))
            self.assert_not_claimed((words[1], "ends", row), None)

    def test_rows_with_other_signs_are_bad(self):
        for row in ("c", "ac", "z", "cccccca", "y" * 1000):
            self.assert_claimed(("bad", "ends", row))
            self.assert_not_claimed(("good", "ends", row), None)
        desk = filled()
        desk.claim(("good", "has", "ba"))
        self.assert_broken(desk, desk.put, ("has", OTHER_SIGNS), 0, None)
        desk = Desk()
        desk.put("a", ALL)
        desk.claim(("good", "a", "ab"))
        self.assert_broken(desk, desk.put, ("a", OTHER_SIGNS), 0, None)
        self.assert_broken(desk, desk.put, ("a", ONE_SIGN), 0, None)

    def test_the_same_claim_twice(self):
        desk = filled()
        desk.claim(desk.claims[0])
        self.assertEqual(desk.claims[0], desk.claims[6])


class WrongClaims(Desks):
    def assert_no_claim(self, value):
        for desk in (Desk(), filled()):
            self.assert_refused(desk, desk.claim, (value,), InvalidClaim, given=value)

    def test_any_values(self):
        for value in odd_values() + ["", "alike", "kept ends last 1", Rule(ends_rule().text), ("alike",), ("kept",)]:
            self.assert_no_claim(value)

    def test_lists_in_the_place_of_tuples(self):
        for claim in filled().claims:
            self.assert_no_claim(list(claim))

    def test_so_many_elements(self):
        for claim in filled().claims:
            for size in range(len(claim)):
                self.assert_no_claim(claim[:size])
            self.assert_no_claim(claim + ("ends",))
            self.assert_no_claim(claim + (1,))
            self.assert_no_claim((claim,))

    def test_words(self):
        for word in odd_values() + ["", "Alike", "alike ", "apart", "last", "windows", "keep", "g", "goodbad", b"good"]:
            for rest in (("ends", "has"), ("ends", "last"), ("ends", "last", 1), ("ends", "a"), ("ends",), ()):
                self.assert_no_claim((word,) + rest)

    def test_kinds(self):
        for value in odd_values() + ["", "Last", "last ", "window", "a"]:
            self.assert_no_claim(("kept", "ends", value, 1))
            self.assert_no_claim(("never", "even", value))
            self.assert_no_claim(("kept", "none", value, 1))
            self.assert_no_claim(("kept", None, value, None))
        self.assert_no_claim(("never", "even", "sets"))

    def test_numbers(self):
        for kind in KINDS:
            for value in [value for value in odd_values() if type(value) is not int] + [
                    7, 8, -1, 1000, 10 ** 39, "1", b"1", (1,)]:
                self.assert_no_claim(("kept", "ends", kind, value))
                self.assert_no_claim(("kept", "none", kind, value))
            if kind != "last":
                self.assert_no_claim(("kept", "ends", kind, 0))

    def test_rows(self):
        for word in ("good", "bad"):
            for value in odd_values() + ["A", "a b", "a\n", ">a", "a<", "a" * 1001, "1"]:
                self.assert_no_claim((word, "ends", value))
                self.assert_no_claim((word, "none", value))

    def test_unknown_names(self):
        for value in NO_NAMES + ["end", "x"]:
            desk = filled()
            for claim in (("alike", value, "ends"), ("alike", "ends", value), ("within", value, value),
                          ("within", value, None), ("kept", value, "last", 1), ("never", value, "last"),
                          ("good", value, "a"), ("bad", value, "a")):
                self.assert_refused(desk, desk.claim, (claim,), UnknownName, given=value)

    def test_the_first_unknown_name(self):
        desk = filled()
        self.assert_refused(desk, desk.claim, (("alike", "x", "y"),), UnknownName, given="x")
        self.assert_refused(desk, desk.claim, (("within", "ends", "y"),), UnknownName, given="y")
        desk = Desk()
        self.assert_refused(desk, desk.claim, (("within", "ends", "has"),), UnknownName, given="ends")


class Lifting(Desks):
    def test_both_ends_and_between(self):
        claims = filled().claims
        for index in range(6):
            desk = self.assert_done(filled, "lift", (index,))
            self.assertEqual(desk.claims, claims[:index] + claims[index + 1:])
            self.assertEqual(desk.names, filled().names)

    def test_what_was_lifted_is_asked_no_more(self):
        desk = filled()
        desk.lift(0)
        self.assert_broken(desk, desk.put, ("ends", even_rule()), 1, same_look(even_rule(), "last", 1))
        desk.lift(1)
        desk.put("ends", even_rule())
        self.assertEqual(desk.rule("ends"), even_rule())

    def test_no_indexes(self):
        for value in [value for value in odd_values() if type(value) is not int] + [
                6, 7, -1, -6, 10 ** 39, "0", "", b"0", (0,)]:
            desk = filled()
            self.assert_refused(desk, desk.lift, (value,), InvalidIndex, given=value)
        for value in (0, 1, -1, None):
            desk = Desk()
            self.assert_refused(desk, desk.lift, (value,), InvalidIndex, given=value)


class Undoing(Desks):
    def test_back_to_the_first_one_and_once_more(self):
        desk = filled()
        desk.lift(2)
        desk.put("more", ALL)
        desk.drop("more")
        desk.put("ends", ends_rule())
        before = history(desk)
        self.assertEqual(desk.changes, 14)
        for step in range(14):
            self.assertEqual(seen(desk), before[step])
            self.assertIsNone(desk.undo())
            self.assertEqual(desk.changes, 13 - step)
        self.assertEqual(seen(desk), ((), [], (), 0))
        for again in range(2):
            self.assert_refused(desk, desk.undo, (), NothingToUndo)

    def test_a_change_that_left_all_as_it_was(self):
        desk = filled()
        desk.put("ends", ends_rule())
        desk.put("ends", ends_rule())
        self.assertEqual(desk.changes, 12)
        desk.undo()
        self.assertEqual(desk.changes, 11)

    def test_other_changes_behind_those_taken_back(self):
        desk = filled()
        desk.undo()
        desk.undo()
        desk.claim(("good", "has", "a"))
        self.assertEqual(desk.claims[4:], (("good", "has", "a"),))
        self.assertEqual(desk.changes, 9)
        desk.undo()
        self.assertEqual(history(desk), history(filled())[2:])

    def test_many_changes(self):
        desk = Desk()
        for step in range(3000):
            desk.put("a", ALL if step % 2 else NONE)
        self.assertEqual(desk.changes, 3000)
        while desk.changes:
            desk.undo()
        self.assertEqual(desk.names, ())


class Trials(Desks):
    def test_a_trial_that_ends_well(self):
        desk = filled()
        before = history(desk)
        with desk.trial() as held:
            self.assertIs(held, desk)
            held.put("more", ALL)
            held.claim(("good", "more", ""))
        self.assertEqual(desk.names, ("ends", "even", "free", "has", "more"))
        self.assertEqual(history(desk)[2:], before)

    def test_a_trial_that_ends_with_an_exception(self):
        for error in (Stopped(), KeyboardInterrupt(), ValueError(), GeneratorExit()):
            desk = filled()
            before = history(desk)
            with self.assertRaises(type(error)) as caught:
                with desk.trial() as held:
                    held.put("more", ALL)
                    held.lift(0)
                    held.drop("more")
                    raise error
            self.assertIs(caught.exception, error)
            self.assertEqual(history(desk), before)

    def test_with_an_error_of_the_desk(self):
        desk = filled()
        before = history(desk)
        with self.assertRaises(Broken):
            with desk.trial():
                desk.put("more", ALL)
                desk.put("ends", even_rule())
        self.assertEqual(history(desk), before)

    def test_changes_taken_back_within_a_trial(self):
        desk = filled()
        before = history(desk)
        with self.assertRaises(NothingToUndo):
            with desk.trial():
                while True:
                    desk.undo()
        self.assertEqual(history(desk), before)
        with desk.trial():
            desk.undo()
        self.assertEqual(history(desk), before[1:])
        with self.assertRaises(Stopped):
            with desk.trial():
                desk.undo()
                desk.put("x", ALL)
                raise Stopped()
        self.assertEqual(history(desk), before[1:])

    def test_trials_within_trials(self):
        for inner_fails in (False, True):
            for outer_fails in (False, True):
                for again in (False, True):
                    self.check_two(inner_fails, outer_fails, again)

    def check_two(self, inner_fails, outer_fails, again):
        """Two trials, one within the other; `again` is whether both are what one call returned."""
        desk = filled()
        names = desk.names
        outer = desk.trial()
        inner = outer if again else desk.trial()
        try:
            with outer:
                desk.put("one", ALL)
                try:
                    with inner as held:
                        held.put("two", ALL)
                        if inner_fails:
                            raise Stopped()
                except Stopped:
                    self.assertEqual(desk.names, tuple(sorted(names + ("one",))))
                    self.assertEqual(desk.changes, 11)
                desk.put("three", ALL)
                if outer_fails:
                    raise Stopped()
        except Stopped:
            self.assertEqual(history(desk), history(filled()))
        more = () if outer_fails else ("one", "three") if inner_fails else ("one", "two", "three")
        self.assertEqual(desk.names, tuple(sorted(names + more)))
        self.assertEqual(desk.changes, 10 + len(more))

    def test_what_a_trial_returned_is_used_again(self):
        desk = filled()
        trial = desk.trial()
        desk.put("before", ALL)
        for step, name in enumerate(("one", "two")):
            with self.assertRaises(Stopped):
                with trial:
                    desk.put("no", ALL)
                    raise Stopped()
            with trial as held:
                held.put(name, ALL)
            self.assertEqual(desk.changes, 12 + step)
        self.assertEqual(desk.names, ("before", "ends", "even", "free", "has", "one", "two"))

    def test_deep_within_itself(self):
        desk = filled()
        trial = desk.trial()

        def go(depth):
            with trial:
                desk.put("a" * depth, ALL)
                if depth == 8:
                    raise Stopped()
                try:
                    go(depth + 1)
                finally:
                    self.assertEqual(desk.names[:depth], tuple("a" * size for size in range(1, depth + 1)))
                    self.assertEqual(desk.changes, 10 + depth)

        before = history(desk)
        with self.assertRaises(Stopped):
            go(1)
        self.assertEqual(history(desk), before)

    def test_two_desks(self):
        one, other = filled(), filled()
        with self.assertRaises(Stopped):
            with one.trial():
                one.put("x", ALL)
                other.put("x", ALL)
                raise Stopped()
        self.assertEqual([one.changes, other.changes], [10, 11])


class Tried(Desks):
    def test_what_the_action_returns(self):
        for value in (None, 7, "a", (1, 2)):
            desk = filled()
            for call in ways(desk.tried, (lambda held: value,)):
                self.assertIs(call(), value)
            self.assertEqual(history(desk), history(filled()))
        self.assertIs(desk.tried(lambda held: held), desk)

    def test_an_action_that_changes_the_desk(self):
        desk = filled()
        self.assertIsNone(desk.tried(lambda held: held.put("more", ALL)))
        self.assertEqual(desk.changes, 11)
        self.assertEqual(desk.rule("more"), ALL)

    def test_an_action_that_ends_with_an_exception(self):
        def action(held):
            held.put("more", ALL)
            held.undo()
            held.undo()
            held.tried(lambda inner: inner.put("other", ALL))
            raise Stopped()

        desk = filled()
        for call in ways(desk.tried, (action,)):
            with self.assertRaises(Stopped):
                call()
            self.assertEqual(history(desk), history(filled()))


class Model(unittest.TestCase):
    """Desks with changes at random, held against a list of all that was."""

    def claim_holds(self, rules, claim):
        word, name, *rest = claim
        text = rules[name].text
        if word in ("alike", "within"):
            other = rules[rest[0]].text
            if rules[name].signs != rules[rest[0]].signs:
                return False
            rows = list(all_rows(rules[name].signs, 6))
            left, right = good_rows(text, rows), good_rows(other, rows)
            return left == right if word == "alike" else set(left) <= set(right)
        if word == "kept":
            if rest[0] == "sets" and rules[name].signs == "ab" and (
                    rest[1] > 3 or len(triples_of(text, rest[1])) > 3000):
                return False
            return plain_kept(text, *rest)
        if word == "never":
            return plain_least(text, rest[0], 8) is None
        return (set(rest[0]) <= set(rules[name].signs) and is_good(text, rest[0])) == (word == "good")

    def random_claim(self, source):
        names = "abcd"
        word = source.choice(["alike", "within", "kept", "kept", "never", "good", "bad"])
        if word in ("alike", "within"):
            return word, source.choice(names), source.choice(names)
        if word == "kept":
            return word, source.choice(names), source.choice(KINDS), source.randint(1, 4)
        if word == "never":
            return word, source.choice(names), source.choice(KINDS[:3])
        return word, source.choice(names), "".join(source.choices("ab", k=source.randint(0, 3)))

    def step(self, source, desk, past):
        """One change of the desk and of the list; what the desk must raise, if it must."""
        rules, claims = past[-1]
        done = source.choice(["put", "put", "claim", "claim", "claim", "drop", "lift", "undo"])
        name = source.choice("abcd")
        if done == "put":
            rule = Rule(written(*random_parts(source, 3, source.choice(["ab", "ab", "ab", "a"]))))
            broken = [at for at, claim in enumerate(claims) if not self.claim_holds({**rules, name: rule}, claim)]
            return (lambda: desk.put(name, rule)), ({**rules, name: rule}, claims), Broken if broken else None, broken
        if done == "claim":
            claim = self.random_claim(source)
            if not set(claim[1:3 if claim[0] in ("alike", "within") else 2]) <= set(rules):
                return (lambda: desk.claim(claim)), None, UnknownName, []
            error = None if self.claim_holds(rules, claim) else Broken
            return (lambda: desk.claim(claim)), (rules, claims + (claim,)), error, [len(claims)]
        if done == "drop":
            used = [at for at, claim in enumerate(claims)
                    if name in claim[1:3 if claim[0] in ("alike", "within") else 2]]
            error = UnknownName if name not in rules else InUse if used else None
            return ((lambda: desk.drop(name)), ({key: rules[key] for key in rules if key != name}, claims), error, used)
        if done == "lift":
            index = source.randint(0, 3)
            error = InvalidIndex if index >= len(claims) else None
            return (lambda: desk.lift(index)), (rules, claims[:index] + claims[index + 1:]), error, []
        return desk.undo, None, NothingToUndo if len(past) == 1 else None, []

    def test_many_changes(self):
        source = random.Random(111)
        counts = {}
        for run in range(12):
            desk = Desk()
            past = [({}, ())]
            for step in range(60):
                call, after, error, places = self.step(source, desk, past)
                if error is None:
                    self.assertIsNone(call())
                    past = past[:-1] if after is None else past + [after]
                else:
                    with self.assertRaises(error) as caught:
                        call()
                    if places:
                        self.assertEqual(caught.exception.index, places[0])
                counts[error] = counts.get(error, 0) + 1
                rules, claims = past[-1]
                self.assertEqual(seen(desk), (tuple(sorted(rules)), [rules[name] for name in sorted(rules)], claims,
                                              len(past) - 1))
                self.assertTrue(all(self.claim_holds(rules, claim) for claim in claims))
        self.assertGreater(min(counts[error] for error in (None, Broken, UnknownName, InUse, InvalidIndex)), 20)

    def test_the_first_row_is_shown(self):
        source = random.Random(112)
        for step in range(100):
            one, other = [Rule(written(*random_parts(source, 3, "ab"))) for side in range(2)]
            desk = Desk()
            desk.put("a", one)
            desk.put("b", other)
            rows = list(all_rows("ab", 9))
            left, right = set(good_rows(one.text, rows)), set(good_rows(other.text, rows))
            for word, apart in (("alike", left ^ right), ("within", left - right)):
                try:
                    desk.claim((word, "a", "b"))
                    shown = []
                except Broken as error:
                    shown = [error.shown]
                self.assertEqual(shown, sorted(apart, key=lambda row: (len(row), row))[:1])
            if parting(one, other) is not None:
                desk = Desk()
                desk.put("a", one)
                desk.put("b", one)
                desk.claim(("alike", "a", "b"))
                with self.assertRaises(Broken) as caught:
                    desk.put("b", other)
                self.assertEqual((caught.exception.index, caught.exception.shown), (0, parting(one, other)))


if __name__ == "__main__":
    unittest.main()
