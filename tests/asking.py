"""What the tests of functions share: calls by position and by name, and the errors that they raise."""

import inspect
import itertools

from shortlooks.errors import NotARule, OtherSigns
from shortlooks.rules import Rule
from tests.samples import ENDS, odd_values, written

NO_RULES = odd_values() + ["", "a", "ends", ENDS, [Rule(ENDS)], (Rule(ENDS),), Rule]
NO_KINDS = odd_values() + ["", "Last", "LAST", "last ", " ends", "ends\n", "window", "set", "lastends", "a", "l",
                           ("last",), ["ends"], b"sets", {"windows": 1}, Rule(ENDS)]
NO_NUMBERS = [value for value in odd_values() if type(value) is not int] + [
    -1, -10 ** 39, 1001, 1002, 10 ** 39, "", "1", "one", b"1", [1], (1,), {1: 1}, Rule(ENDS)]


def ways(function, arguments):
    """Calls by position, by name, by name in all other orders, and by both."""
    names = list(inspect.signature(function).parameters)
    assert len(names) == len(arguments)
    named = list(zip(names, arguments))
    yield lambda: function(*arguments)
    for order in itertools.permutations(named):
        yield lambda: function(**dict(order))
    for at in range(1, len(named)):
        yield lambda: function(*arguments[:at], **dict(named[at:]))


class Asking:
    """Beside unittest.TestCase: how calls are asked for what they return and raise."""

    def assert_gives(self, function, arguments, result):
        """All ways to call it give this, and change no rule."""
        texts = [argument.text for argument in arguments if type(argument) is Rule]
        for call in ways(function, arguments):
            given = call()
            self.assertIs(type(given), type(result))
            self.assertTrue(given == result, (given, result))
        self.assertEqual([argument.text for argument in arguments if type(argument) is Rule], texts)

    def assert_raises(self, function, arguments, error, **told):
        """All ways to call it raise just this error, with these very attributes."""
        for call in ways(function, arguments):
            with self.assertRaises(error) as caught:
                call()
            self.assertIs(type(caught.exception), error)
            self.assertEqual(list(vars(caught.exception)), list(told))
            for name, value in told.items():
                found = getattr(caught.exception, name)
                if type(value) is int:
                    self.assertEqual(found, value)
                else:
                    self.assertIs(found, value)

    def assert_takes_two_rules(self, function):
        """It raises the errors of `one` and `other` in their order."""
        for value in NO_RULES:
            self.assert_raises(function, (value, Rule(ENDS)), NotARule, given=value)
            self.assert_raises(function, (Rule(ENDS), value), NotARule, given=value)
            self.assert_raises(function, (value, None), NotARule, given=value)
            self.assert_raises(function, (value, ENDS), NotARule, given=value)
        rules = [Rule(written(signs, ["p"], [], ["p"] * len(signs))) for signs in ("a", "b", "ab", "ac", "abc", "xyz")]
        for one, other in itertools.permutations(rules, 2):
            self.assert_raises(function, (one, other), OtherSigns)
