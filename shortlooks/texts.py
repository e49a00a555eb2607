"""How the strings of the package are read and written: rows, words of letters, and the texts of rules."""

from shortlooks.limits import MOST_MOODS, MOST_ROW, MOST_SIGNS

LETTERS = "abcdefghijklmnopqrstuvwxyz"
LONGEST_WORD = 8
TITLES = ("signs", "moods", "good")


def made_of(text, letters):
    """Whether a string has no other characters than these letters."""
    return all([letter in letters for letter in text])


def is_row_of(value, letters):
    """Whether a value is a row of these letters that may be passed."""
    return isinstance(value, str) and len(value) <= MOST_ROW and made_of(value, letters)


def is_word(text):
    """Whether a string has one to eight letters and nothing else."""
    return 1 <= len(text) <= LONGEST_WORD and made_of(text, LETTERS)


def are_signs(words):
    """Whether a list of words is one string of signs."""
    if len(words) != 1 or not 1 <= len(words[0]) <= MOST_SIGNS:
        return False
    return made_of(words[0], LETTERS) and words[0] == "".join(sorted(set(words[0])))


def are_moods(words):
    """Whether a list of words can be the moods of a rule."""
    if not 1 <= len(words) <= MOST_MOODS:
        return False
    return all([is_word(word) for word in words]) and len(set(words)) == len(words)


def are_good(words, moods):
    """Whether a list of words is some of the moods in their order, none of them twice."""
    chosen = {word: True for word in words}
    return words == [mood for mood in moods if mood in chosen]


def read_goals(signs, moods, rows):
    """The dict from pairs (mood, sign) to moods that the rows of words write; None if they write none."""
    known = {mood: True for mood in moods}
    if [row[:2] for row in rows] != [[mood, sign] for mood in moods for sign in signs]:
        return None
    if not all([len(row) == 3 and row[2] in known for row in rows]):
        return None
    return {(mood, sign): goal for mood, sign, goal in rows}


def read_rule(text):
    """The signs, moods, good moods and goals that a string writes; None if it is no text of a rule."""
    # Splitting at every single space and newline leaves empty words where there is one too many,
    # and an empty word is never right, so nothing is let in that is not written exactly.
    rows = [line.split(" ") for line in text.split("\n")]
    if [row[0] for row in rows[:3]] != list(TITLES):
        return None
    signs, moods, good = [row[1:] for row in rows[:3]]
    if not (are_signs(signs) and are_moods(moods) and are_good(good, moods)):
        return None
    goals = read_goals(signs[0], moods, rows[3:])
    if goals is None:
        return None
    return signs[0], tuple(moods), tuple(good), goals


def write_rule(signs, moods, good, goals):
    """The text of the rule with these signs, moods, good moods and goals."""
    lines = [f"signs {signs}", " ".join(["moods", *moods]), " ".join(["good", *good])]
    for mood in moods:
        for sign in signs:
            lines.append(f"{mood} {sign} {goals[mood, sign]}")
    return "\n".join(lines)
