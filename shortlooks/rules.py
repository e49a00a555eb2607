"""Rules: which rows are good, and the rules that differ from one in a single thing."""

from shortlooks.errors import InvalidMood, InvalidRow, InvalidSign, InvalidText, NotARule, OtherSigns
from shortlooks.texts import is_row_of, read_rule, write_rule


class Rule:
    """A rule that says of each row of its signs whether it is good. It never changes."""

    def __init__(self, text):
        parts = read_rule(text) if isinstance(text, str) else None
        if parts is None:
            raise InvalidText(text)
        self.written = text
        self.letters, self.words, self.chosen, self.goals = parts

    @property
    def text(self):
        """The text of the rule."""
        return self.written

    @property
    def signs(self):
        """The signs, as one string."""
        return self.letters

    @property
    def moods(self):
        """The tuple of the moods, the first mood ahead."""
        return self.words

    @property
    def good(self):
        """The tuple of the good moods, in the order of the moods."""
        return self.chosen

    def __eq__(self, other):
        return isinstance(other, Rule) and self.written == other.written

    def __str__(self):
        return str(self.written)

    def __repr__(self):
        return f"Rule of {len(self.words)} moods"

    def mood(self, row):
        """The mood to which a row leads from the first one."""
        if not is_row_of(row, self.letters):
            raise InvalidRow(row)
        reached = self.words[0]
        for sign in row:
            reached = self.goals[reached, sign]
        return reached

    def has(self, row):
        """Whether a row is good."""
        return self.mood(row) in self.chosen

    def lead(self, mood, sign, goal):
        """The rule in which this sign leads from this mood to the goal."""
        if not self.is_mood(mood):
            raise InvalidMood(mood)
        if not self.is_sign(sign):
            raise InvalidSign(sign)
        if not self.is_mood(goal):
            raise InvalidMood(goal)
        goals = {pair: self.goals[pair] for pair in self.goals}
        goals[mood, sign] = goal
        return Rule(write_rule(self.letters, self.words, self.chosen, goals))

    def turn(self, mood):
        """The rule in which this mood is good if it was not, and not if it was."""
        if not self.is_mood(mood):
            raise InvalidMood(mood)
        good = [word for word in self.words if (word in self.chosen) != (word == mood)]
        return Rule(write_rule(self.letters, self.words, good, self.goals))

    # A value that is no string is never compared with one: it may be anything, also something
    # that cannot be compared.

    def is_mood(self, mood):
        """Whether a value is a mood of the rule."""
        return isinstance(mood, str) and mood in self.words

    def is_sign(self, sign):
        """Whether a value is a sign of the rule; a string of several signs is none."""
        return isinstance(sign, str) and len(sign) == 1 and sign in self.letters


def check_rule(value):
    """Raises NotARule if a value is no rule."""
    if not isinstance(value, Rule):
        raise NotARule(value)


def check_fit(one, other):
    """Raises NotARule for the first of two values that is no rule, OtherSigns if two rules do not fit."""
    check_rule(one)
    check_rule(other)
    if one.signs != other.signs:
        raise OtherSigns()
