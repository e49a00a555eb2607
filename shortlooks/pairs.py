"""Pairs of moods, and for how many signs a row can keep them unlike."""

# More than any height: there are fewer than 45000 pairs of at most 300 moods.
ENDLESS = 1000000


def in_order(one, other):
    """The pair of two numbers, the lesser one ahead."""
    return (one, other) if one < other else (other, one)


def heights_of(leads):
    """For each pair its height, from the pairs to which signs lead it; those that lead around are endless."""
    sources = {pair: [] for pair in leads}
    for pair, goals in leads.items():
        for goal in goals:
            sources[goal].append(pair)
    heights = {pair: ENDLESS for pair in leads}
    waiting = {pair: len(goals) for pair, goals in leads.items()}
    ready = [pair for pair, goals in leads.items() if not goals]
    while ready:
        pair = ready.pop()
        heights[pair] = 1 + max([heights[goal] for goal in leads[pair]], default=0)
        for source in sources[pair]:
            waiting[source] -= 1
            if waiting[source] == 0:
                ready.append(source)
    return heights


class Pairs:
    """The pairs of two different moods of a form that count.

    The height of such a pair is the least number for which each row of so many signs leads it to no such pair; it is
    endless if there is none. The height of other pairs is 0.
    """

    def __init__(self, form, counted):
        self.form = form
        self.counted = counted
        moods = [mood for mood, flag in enumerate(counted) if flag]
        pairs = [(low, high) for high in moods for low in moods if low < high]
        self.heights = heights_of({
            pair: [in_order(left, right) for sign, left, right in self.steps(pair)] for pair in pairs})

    def steps(self, pair):
        """The signs that lead a pair to two different moods that count, each one with these two."""
        table = self.form.table
        found = list(zip(self.form.letters, table[pair[0]], table[pair[1]]))
        return [step for step in found if step[1] != step[2] and self.counted[step[1]] and self.counted[step[2]]]

    def height(self, one, other):
        """The height of a pair."""
        return self.heights.get(in_order(one, other), 0)

    def tallest(self):
        """The greatest height of all, 0 if there are no pairs."""
        return max(list(self.heights.values()), default=0)

    def taller(self, number):
        """The first pair whose height is more than a number; None if there is none."""
        for pair, height in self.heights.items():
            if height > number:
                return pair
        return None

    def highest_step(self, pair):
        """Of the signs that lead to pairs the one that leads to the greatest height, with the two moods."""
        return max(self.steps(pair), key=lambda step: self.height(step[1], step[2]))

    def row_apart(self, one, other, number):
        """A row of so many signs that leads a pair, whose height is more, to a pair."""
        pair = (one, other)
        signs = []
        for step in range(number):
            sign, left, right = self.highest_step(pair)
            signs.append(sign)
            pair = (left, right)
        return "".join(signs)

    def ring(self, one, other):
        """Two moods behind an endless pair, and a row of at least one sign that leads each of them to itself."""
        pair = (one, other)
        seen = {}
        signs = []
        while pair not in seen:
            seen[pair] = len(signs)
            sign, left, right = self.highest_step(pair)
            signs.append(sign)
            pair = (left, right)
        return pair[0], pair[1], "".join(signs[seen[pair]:])


def pairs_for_last(form):
    """The pairs that count for last and ends: all of them."""
    return Pairs(form, [True for mood in form.table])


def pairs_for_windows(form):
    """The pairs that count for windows: those of live moods."""
    return Pairs(form, form.lives())


class Forks:
    """A mood and two moods behind it: what counts for ends."""

    def __init__(self, form):
        self.form = form
        self.pairs = pairs_for_last(form)
        self.behind_each = [form.reached(mood) for mood in range(len(form.table))]
        # Of two sets that are numbers with a bit for each mood it is told quickly whether they have one in common.
        self.masks = [sum([1 << mood for mood in found]) for found in self.behind_each]

    def far_moods(self, number):
        """For each mood the set of those with which it has a height of more than a number."""
        far = [0 for mood in self.form.table]
        for (low, high), height in self.pairs.heights.items():
            if height > number:
                far[low] |= 1 << high
                far[high] |= 1 << low
        return far

    def fork(self, starts, number):
        """One of the starts, and two moods behind it whose height is more than a number; None if there are none."""
        far = self.far_moods(number)
        for start in starts:
            for one in self.behind_each[start]:
                both = far[one] & self.masks[start]
                if both:
                    return start, one, both.bit_length() - 1
        return None

    def rows_to(self, number):
        """The moods that come behind rows of just so many signs, each one with such a row."""
        rows = {0: ""}
        for step in range(number):
            longer = {}
            for mood, row in rows.items():
                for sign, goal in zip(self.form.letters, self.form.table[mood]):
                    if goal not in longer:
                        longer[goal] = row + sign
            rows = longer
        return rows

    def fork_for(self, number):
        """A fork that shows that ends does not keep the rule with a number; None if it does."""
        return self.fork(list(self.rows_to(number)), number)

    def endless_fork(self):
        """A fork, the first mood of which some row leads to itself, with an endless height; None if there is none."""
        starts = [mood for mood, goals in enumerate(self.form.table)
                  if any([self.masks[goal] >> mood & 1 for goal in goals])]
        return self.fork(starts, ENDLESS - 1)
