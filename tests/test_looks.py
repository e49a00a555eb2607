"""Point [9]: the kinds of watchers, and the look of a row."""

import random
import unittest

from shortlooks import looks
from shortlooks.errors import InvalidKind, InvalidNumber, InvalidRow
from shortlooks.looks import look
from shortlooks.rules import Rule
from tests.asking import NO_KINDS, NO_NUMBERS, Asking
from tests.samples import ENDS, all_rows, odd_values

KINDS = ("last", "ends", "windows", "sets")
LETTERS = "abcdefghijklmnopqrstuvwxyz"
NO_ROWS = odd_values() + ["A", "a1", "1", " ", "a ", " a", "\n", "a\n", ">a<", "<", ">", "a-b", "`", "{", "a" * 1001,
                          "ab" * 501, "z" * 60000, "a" * 999 + "A", ["a", "b"], ("a",), b"ab", Rule(ENDS)]


def plain_look(kind, number, row):
    """The look, told in another way than the package does."""
    if kind == "last":
        return (row, True) if len(row) < number else ("".join(list(reversed(row))[:number])[::-1], False)
    if kind == "ends":
        if len(row) < 2 * number:
            return (row, True)
        return ((row[:number], row[-number:]), False)
    marked = ">%s<" % row
    pieces = []
    for start in range(len(marked)):
        piece = marked[start:start + number]
        if len(piece) == number and piece not in pieces:
            pieces.append(piece)
    return tuple(sorted(pieces)) if pieces else (marked,)


class Looks(unittest.TestCase, Asking):
    def assert_look(self, kind, number, row, seen):
        self.assert_gives(look, (kind, number, row), seen)

    def test_the_examples_of_the_document(self):
        self.assertEqual(
            [look("last", 2, "abb"), look("last", 2, "b"), look("ends", 1, "abb"), look("sets", 2, "abab"),
             look("windows", 4, "a")],
            [("bb", False), ("b", True), (("a", "b"), False), (">a", "ab", "b<", "ba"), (">a<",)])

    def test_the_interface_stands_in_the_file(self):
        self.assertEqual(looks.look.__module__, "shortlooks.looks")

    def test_last(self):
        for number, row, seen in (
                (0, "", ("", False)), (0, "ab", ("", False)), (1, "", ("", True)), (1, "a", ("a", False)),
                (1, "ab", ("b", False)), (2, "ab", ("ab", False)), (3, "ab", ("ab", True)), (2, "xyz", ("yz", False))):
            self.assert_look("last", number, row, seen)
            self.assertIs(look("last", number, row)[1], seen[1])

    def test_ends(self):
        for number, row, seen in (
                (1, "", ("", True)), (1, "a", ("a", True)), (1, "ab", (("a", "b"), False)),
                (1, "abc", (("a", "c"), False)), (2, "abc", ("abc", True)), (2, "abcd", (("ab", "cd"), False)),
                (2, "abcde", (("ab", "de"), False)), (3, "abcde", ("abcde", True))):
            self.assert_look("ends", number, row, seen)
            self.assertIs(look("ends", number, row)[1], seen[1])

    def test_windows_and_sets(self):
        for number, row, seen in (
                (1, "", ("<", ">")), (2, "", ("><",)), (3, "", ("><",)), (1000, "", ("><",)),
                (1, "ba", ("<", ">", "a", "b")), (2, "a", (">a", "a<")), (3, "a", (">a<",)), (4, "a", (">a<",)),
                (2, "aaa", (">a", "a<", "aa")), (3, "aaaa", (">aa", "aa<", "aaa")),
                (3, "ab", (">ab", "ab<")), (4, "ab", (">ab<",)), (5, "ab", (">ab<",)),
                (2, "zyx", (">z", "x<", "yx", "zy"))):
            for kind in ("windows", "sets"):
                self.assert_look(kind, number, row, seen)

    def test_marks_come_ahead_of_letters(self):
        self.assertEqual(look("sets", 1, "a"), ("<", ">", "a"))
        self.assertEqual(look("windows", 2, "aab"), (">a", "aa", "ab", "b<"))

    def test_all_short_rows(self):
        for row in all_rows("ab", 6):
            for kind in KINDS:
                for number in range(0 if kind == "last" else 1, 11):
                    self.assert_look(kind, number, row, plain_look(kind, number, row))

    def test_rows_of_more_than_three_letters(self):
        source = random.Random(31)
        for step in range(100):
            row = "".join(source.choices(LETTERS, k=source.randint(0, 40)))
            for kind in KINDS:
                number = source.randint(1, 45)
                self.assert_look(kind, number, row, plain_look(kind, number, row))
        self.assert_look("last", 30, LETTERS, (LETTERS, True))

    def test_long_rows_and_great_numbers(self):
        source = random.Random(32)
        for length in (498, 499, 500, 501, 997, 998, 999, 1000):
            row = "".join(source.choices("abz", k=length))
            for kind in KINDS:
                for number in (1, 2, 499, 500, 501, 997, 998, 999, 1000):
                    self.assert_look(kind, number, row, plain_look(kind, number, row))
        row = "a" * 1000
        self.assert_look("last", 0, row, ("", False))
        self.assert_look("last", 1000, row, (row, False))
        self.assert_look("last", 1000, row[1:], (row[1:], True))
        self.assert_look("ends", 500, row, (("a" * 500, "a" * 500), False))
        self.assert_look("ends", 500, row[1:], (row[1:], True))
        self.assert_look("ends", 501, row, (row, True))
        self.assert_look("sets", 1000, row, (">" + "a" * 999, "a" * 999 + "<", row))
        self.assert_look("windows", 1000, row[:998], (">" + "a" * 998 + "<",))

    def test_results_are_tuples_throughout(self):
        for kind in KINDS:
            self.assertIs(type(look(kind, 1, "ab")), tuple)
        self.assertIs(type(look("ends", 1, "ab")[0]), tuple)


class WrongLooks(unittest.TestCase, Asking):
    def test_no_kinds(self):
        for value in NO_KINDS:
            self.assert_raises(look, (value, 1, "a"), InvalidKind, given=value)
            self.assert_raises(look, (value, -1, "A"), InvalidKind, given=value)
            self.assert_raises(look, (value, None, None), InvalidKind, given=value)

    def test_no_numbers(self):
        for kind in KINDS:
            for value in NO_NUMBERS:
                self.assert_raises(look, (kind, value, "a"), InvalidNumber, given=value)
                self.assert_raises(look, (kind, value, None), InvalidNumber, given=value)

    def test_zero_is_a_number_for_last_alone(self):
        self.assert_gives(look, ("last", 0, "a"), ("", False))
        for kind in ("ends", "windows", "sets"):
            self.assert_raises(look, (kind, 0, "a"), InvalidNumber, given=0)
            self.assert_raises(look, (kind, 0, "A"), InvalidNumber, given=0)
        for kind in KINDS:
            for value in (False, True):
                self.assert_raises(look, (kind, value, "a"), InvalidNumber, given=value)

    def test_no_rows(self):
        for kind in KINDS:
            for value in NO_ROWS:
                for number in (1, 1000):
                    self.assert_raises(look, (kind, number, value), InvalidRow, given=value)


if __name__ == "__main__":
    unittest.main()
