"""Point [6]: what is no text of a rule is refused."""

import random
import re
import string
import unittest

from shortlooks.errors import InvalidText
from shortlooks.rules import Rule
from tests.samples import ENDS, many_words, odd_values, random_rules, round_rule, written

FORM = re.compile(r"signs ([a-z]{1,3})\nmoods ([a-z]{1,8}(?: [a-z]{1,8})*)\ngood((?: [a-z]{1,8})*)((?:\n[^\n]*)*)")


def is_text(text):
    """Whether this is the text of a rule, told in another way than the package does."""
    found = FORM.fullmatch(text)
    if not found:
        return False
    signs, moods, good = found.group(1), found.group(2).split(), found.group(3).split()
    if any(left >= right for left, right in zip(signs, signs[1:])):
        return False
    if len(moods) > 300 or any(moods.count(mood) > 1 for mood in moods):
        return False
    if any(mood not in moods for mood in good):
        return False
    places = [moods.index(mood) for mood in good]
    if any(left >= right for left, right in zip(places, places[1:])):
        return False
    lines = found.group(4).split("\n")[1:]
    if len(lines) != len(moods) * len(signs):
        return False
    starts = ["%s %s " % (mood, sign) for mood in moods for sign in signs]
    return all(line in [start + goal for goal in moods] for start, line in zip(starts, lines))


class Refused(unittest.TestCase):
    def assert_refused(self, text):
        for make in (lambda: Rule(text), lambda: Rule(text=text)):
            with self.assertRaises(InvalidText) as caught:
                make()
            self.assertIs(caught.exception.given, text)

    def assert_let_in(self, text):
        self.assertEqual(Rule(text).text, text)

    def assert_right(self, text):
        """The program lets in just what the other way to tell lets in."""
        if is_text(text):
            self.assert_let_in(text)
        else:
            self.assert_refused(text)


class NoTexts(Refused):
    def test_no_string(self):
        for value in odd_values() + [[ENDS], (ENDS,), ENDS.encode(), ENDS.split("\n"), Rule(ENDS)]:
            self.assert_refused(value)

    def test_empty_and_other_strings(self):
        for text in ("", " ", "\n", "\n\n\n", "signs", "signs a", "signs a\nmoods m", "signs a\nmoods m\ngood",
                     "signs a\nmoods m\ngood m", "rule", "None", "a" * 60000, "\n" * 60000, "signs " * 10000):
            self.assert_refused(text)

    def test_a_line_left_out_twice_exchanged_or_put_in(self):
        lines = ENDS.split("\n")
        for at in range(len(lines)):
            self.assert_refused("\n".join(lines[:at] + lines[at + 1:]))
            self.assert_refused("\n".join(lines[:at + 1] + lines[at:]))
            for further in range(at + 1, len(lines)):
                changed = list(lines)
                changed[at], changed[further] = lines[further], lines[at]
                self.assert_refused("\n".join(changed))
            for more in lines + ["", " ", "out", "out c in", "signs a", "other a in"]:
                self.assert_refused("\n".join(lines[:at] + [more] + lines[at:]))
        for more in lines + ["", " ", "out c in", "other a in"]:
            self.assert_refused("\n".join(lines + [more]))

    def test_a_word_left_out_twice_or_otherwise(self):
        lines = [line.split(" ") for line in ENDS.split("\n")]
        wrong = ["", "x", "A", "Good", "signs", "moods", "good", "inn", "ou", "ab", "out in"]
        for at, words in enumerate(lines):
            for place in range(len(words)):
                for new in [[], [words[place]] * 2] + [[word] for word in wrong]:
                    changed = words[:place] + new + words[place + 1:]
                    text = "\n".join([" ".join(line) for line in lines[:at] + [changed] + lines[at + 1:]])
                    self.assert_right(text)

    def test_words_of_the_titles_written_otherwise(self):
        for title in ("signs", "moods", "good"):
            for other in (title.upper(), title.title(), title[:-1], title + "s", title + ":", " " + title, ""):
                self.assert_refused(ENDS.replace(title, other))

    def test_a_space_or_a_newline_too_much(self):
        for at in range(len(ENDS) + 1):
            for more in (" ", "\n", "  ", "\n\n", " \n", "\n "):
                self.assert_refused(ENDS[:at] + more + ENDS[at:])

    def test_a_space_or_a_newline_too_little_or_exchanged(self):
        for at, character in enumerate(ENDS):
            if character in " \n":
                for other in ("", "-", "_", ",", "\n" if character == " " else " "):
                    self.assert_refused(ENDS[:at] + other + ENDS[at + 1:])

    def test_every_single_character_changed(self):
        texts = [ENDS, written("abc", ["a", "b"], ["a", "b"], ["a", "b", "a", "b", "b", "b"]),
                 written("k", ["m", "aaaaaaaa"], [], ["m", "m"])]
        for text in texts:
            for at in range(len(text)):
                self.assert_right(text[:at] + text[at + 1:])
                for character in " \naAbkmnz0-.~":
                    self.assert_right(text[:at] + character + text[at:])
                    self.assert_right(text[:at] + character + text[at + 1:])

    def test_changes_of_many_texts(self):
        source = random.Random(3)
        for parts in random_rules(4, 400, 4):
            text = written(*parts)
            self.assert_right(text)
            for step in range(10):
                low, high = sorted([source.randint(0, len(text)), source.randint(0, len(text))])
                high = min(high, low + 4)
                other = source.randint(0, len(text))
                self.assert_right(text[:low] + text[high:])
                self.assert_right(text[:low] + text[other:other + 3] + text[high:])


class Signs(Refused):
    def test_one_to_three_signs(self):
        for signs in ("a", "z", "az", "abc", "xyz", "amz"):
            self.assert_let_in(written(signs, ["m"], [], ["m"] * len(signs)))
        for signs in ("", "abcd", "wxyz", string.ascii_lowercase):
            self.assert_refused(written(signs, ["m"], [], ["m"] * len(signs)))

    def test_signs_that_do_not_ascend(self):
        for signs in ("ba", "aa", "aba", "acb", "bac", "cba", "aab", "abb", "aaa"):
            self.assert_refused(written(signs, ["m"], [], ["m"] * len(signs)))

    def test_signs_that_are_no_letters(self):
        for signs in ("A", "aB", "1", "a1", "-", "~", "`", "{", "<", "a{"):
            self.assert_refused(written(signs, ["m"], [], ["m"] * len(signs)))

    def test_signs_in_several_words(self):
        text = written("ab", ["m"], [], ["m", "m"])
        for line in ("signs a b", "signs ab ab", "signs ab c", "signs", "signs "):
            self.assert_refused(text.replace("signs ab", line))

    def test_lines_for_other_signs(self):
        for sign in ("c", "ab", "A", ""):
            self.assert_refused(ENDS.replace("out b out", "out %s out" % sign))


class Moods(Refused):
    def test_one_to_300_moods(self):
        for number in (1, 2, 299, 300):
            for signs in ("a", "xyz"):
                self.assert_let_in(round_rule(number, signs))
                self.assert_let_in(round_rule(number, signs, range(number)))
        for number in (301, 302, 600):
            for signs in ("a", "xyz"):
                self.assert_refused(round_rule(number, signs))
        self.assert_refused("signs a\nmoods\ngood")
        self.assert_refused("signs a\nmoods \ngood")
        self.assert_refused("signs a\nmoods \ngood\n a ")

    def test_words_of_one_to_eight_letters(self):
        for word in ("a", "z", "az", "abcdefg", "abcdefgh", "zzzzzzzz"):
            self.assert_let_in(written("a", [word], [word], [word]))
            self.assert_let_in(written("a", ["m", word], [], [word, "m"]))
        for word in ("", "abcdefghi", "zzzzzzzzz", "abcdefghijklmnop"):
            self.assert_refused(written("a", [word], [word], [word]))
            self.assert_refused(written("a", ["m", word], [], [word, "m"]))

    def test_words_of_other_characters(self):
        for word in ("A", "aB", "a1", "1", "a-b", "a_b", "`", "{", "a.", "a,b", "-", "~"):
            self.assert_refused(written("a", [word], [], [word]))
            self.assert_refused(written("a", ["m", word], [word], ["m", "m"]))

    def test_a_mood_twice(self):
        self.assert_refused(written("a", ["m", "m"], [], ["m", "m"]))
        self.assert_refused(written("a", ["m", "n", "m"], ["n"], ["m", "m", "n"]))
        moods = many_words(300)
        moods[299] = moods[0]
        self.assert_refused(written("a", moods, [], moods))

    def test_goals_that_are_no_moods(self):
        for goal in ("other", "i", "inn", "a", "out in", "OUT"):
            for line in ("out a in", "out b out", "in a in", "in b out"):
                self.assert_refused(ENDS.replace(line, line.rpartition(" ")[0] + " " + goal))


class Good(Refused):
    def test_all_sets_of_good_moods_in_their_order(self):
        moods = ["c", "a", "b", "aa"]
        for chosen in range(16):
            good = [mood for at, mood in enumerate(moods) if chosen >> at & 1]
            self.assert_let_in(written("s", moods, good, moods))

    def test_another_order_or_twice(self):
        moods = ["c", "a", "b"]
        wrong = [["a", "c"], ["b", "a"], ["c", "b", "a"], ["a", "b", "c"], ["c", "c"], ["c", "a", "a"], ["c", "a", "c"],
                 ["c", "a", "b", "c"], ["c", "a", "b", "b"]]
        for good in wrong:
            self.assert_refused(written("s", moods, good, moods))

    def test_good_moods_that_are_none(self):
        for line in ("good other", "good in other", "good a", "good IN", "good out,in", "good outin"):
            self.assert_refused(ENDS.replace("good in", line))

    def test_good_alone_if_there_are_none(self):
        self.assert_let_in(ENDS.replace("good in", "good"))
        for line in ("good ", "good -", "good none", ""):
            self.assert_refused(ENDS.replace("good in", line))
        self.assert_refused(ENDS.replace("good in\n", ""))


if __name__ == "__main__":
    unittest.main()
