"""Slow and plain ways to tell what the package tells, from the texts of rules alone."""


def read(text):
    """The signs, the moods, the good moods and the goals of a rule."""
    lines = [line.split() for line in text.split("\n")]
    goals = {(mood, sign): goal for mood, sign, goal in lines[3:]}
    return lines[0][1], lines[1][1:], lines[2][1:], goals


def led(goals, mood, row):
    """The mood to which a row leads from a mood."""
    for sign in row:
        mood = goals[mood, sign]
    return mood


def coming(text):
    """The first rows to the moods that come, in the order of these rows."""
    signs, moods, good, goals = read(text)
    firsts = {moods[0]: ""}
    rows = [""]
    for row in rows:
        for sign in signs:
            goal = led(goals, moods[0], row + sign)
            if goal not in firsts:
                firsts[goal] = row + sign
                rows.append(row + sign)
    return firsts


def sorts(text):
    """For each mood a number, the same for those that no row leads to a good one and another one."""
    signs, moods, good, goals = read(text)
    numbers = {mood: int(mood in good) for mood in moods}
    while True:
        seen = {mood: (numbers[mood],) + tuple([numbers[goals[mood, sign]] for sign in signs]) for mood in moods}
        different = sorted(set(seen.values()))
        if len(different) == len(set(numbers.values())):
            return numbers
        numbers = {mood: different.index(seen[mood]) for mood in moods}


def called(number):
    """The name of a mood of a least form."""
    letters = "abcdefghijklmnopqrstuvwxyz"
    return ["m" + left + right for left in letters for right in letters][number]


def least_text(text):
    """The text of the least form."""
    signs, moods, good, goals = read(text)
    numbers = sorts(text)
    kept = []
    names = {}
    for mood in coming(text):
        same = [other for other in kept if numbers[mood] == numbers[other]]
        if not same:
            names[mood] = called(len(kept))
            kept.append(mood)
        else:
            names[mood] = names[same[0]]
    lines = ["signs " + signs, "moods " + " ".join([names[mood] for mood in kept]),
             " ".join(["good"] + [names[mood] for mood in kept if mood in good])]
    lines += [" ".join([names[mood], sign, names[goals[mood, sign]]]) for mood in kept for sign in signs]
    return "\n".join(lines)


def good_rows(text, rows):
    """Those of the rows that are good."""
    signs, moods, good, goals = read(text)
    return [row for row in rows if led(goals, moods[0], row) in good]


def pairs_behind(one, other):
    """How many pairs of a mood and a set of moods come for `behind`."""
    signs, moods, good, goals = read(least_text(one))
    more_signs, more_moods, more_good, more_goals = read(least_text(other))

    def pair(mood, ends):
        return mood, frozenset(ends | ({more_moods[0]} if mood in good else set()))

    found = [pair(moods[0], set())]
    known = set(found)
    for mood, ends in found:
        for sign in signs:
            new = pair(goals[mood, sign], {more_goals[end, sign] for end in ends})
            if new not in known:
                known.add(new)
                found.append(new)
    return len(found)
