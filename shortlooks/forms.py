"""Least forms with numbers for their moods, and the rows that lead about in them."""

from shortlooks.comparing import first_row, least_form


class Form:
    """The least form of a rule. Its moods are numbers from 0 on, 0 is the first mood, and all of them come."""

    def __init__(self, rule):
        least = least_form(rule)
        numbers = {mood: number for number, mood in enumerate(least.moods)}
        good = {mood: True for mood in least.good}
        self.letters = least.signs
        self.table = [[numbers[least.goals[mood, sign]] for sign in self.letters] for mood in least.moods]
        self.flags = [mood in good for mood in least.moods]

    def step(self, mood, sign):
        """The mood to which a sign leads."""
        return self.table[mood][self.letters.index(sign)]

    def led(self, mood, row):
        """The mood to which a row leads."""
        for sign in row:
            mood = self.step(mood, sign)
        return mood

    def is_live(self, mood):
        """Whether a good mood can come behind this one."""
        # All moods that are not live are alike, so a least form has one at the most, and it leads to itself alone.
        return self.flags[mood] or any([goal != mood for goal in self.table[mood]])

    def lives(self):
        """For each mood whether it is live."""
        return [self.is_live(mood) for mood in range(len(self.table))]

    def reached(self, mood):
        """The moods that can come behind this one, which is the first of them."""
        known = {mood: True}
        found = [mood]
        at = 0
        while at < len(found):
            for goal in self.table[found[at]]:
                if goal not in known:
                    known[goal] = True
                    found.append(goal)
            at += 1
        return found

    def row_where(self, mood, wanted):
        """The first row that leads from a mood to one that is wanted; None if none does."""
        return first_row(self.letters, mood, lambda state, sign: self.step(state, sign), wanted)

    def row_to(self, mood, goal):
        """The first row that leads from a mood to another one; None if none does."""
        return self.row_where(mood, lambda state: state == goal)

    def row_to_good(self, mood):
        """The first row that leads from a live mood to a good one."""
        return self.row_where(mood, lambda state: self.flags[state])

    def row_back_to(self, mood):
        """A row of at least one sign that leads from a mood to itself; None if there is none."""
        for sign in self.letters:
            rest = self.row_to(self.step(mood, sign), mood)
            if rest is not None:
                return sign + rest
        return None

    def row_parting(self, one, other):
        """The first row that leads just one of two unlike moods to a good one."""
        return first_row(self.letters, (one, other),
                         lambda pair, sign: (self.step(pair[0], sign), self.step(pair[1], sign)),
                         lambda pair: self.flags[pair[0]] != self.flags[pair[1]])
