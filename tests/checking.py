"""What papers for the checker are, told once more clause by clause, and papers with one part changed."""

from shortlooks.errors import InvalidText
from shortlooks.rules import Rule
from tests.plain import coming, led, read
from tests.samples import odd_values
from tests.watching import KINDS, is_never_paper, live_moods

SIZES = {"last": (4,), "ends": (6,), "windows": (5,), "sets": (4, 5)}


def is_text(value):
    if type(value) is not str:
        return False
    try:
        Rule(value)
    except InvalidText:
        return False
    return True


def fit(one, other):
    return is_text(one) and is_text(other) and read(one)[0] == read(other)[0]


def plain_apart(one, other, paper):
    if not (fit(one, other) and type(paper) is str and set(paper) <= set(read(one)[0])):
        return False
    flags = set()
    for text in (one, other):
        signs, moods, good, goals = read(text)
        flags.add(led(goals, moods[0], paper) in good)
    return len(flags) == 2


def plain_within(one, other, paper):
    if not (fit(one, other) and type(paper) is tuple):
        return False
    signs, moods, good, goals = read(one)
    signs, more_moods, more_good, more_goals = read(other)
    for at, pair in enumerate(paper):
        if not (type(pair) is tuple and len(pair) == 2 and all(type(part) is str for part in pair)):
            return False
        if pair[0] not in moods or pair[1] not in more_moods or pair in paper[:at]:
            return False
        if pair[0] in good and pair[1] not in more_good:
            return False
    led_to = {(goals[p, sign], more_goals[q, sign]) for p, q in paper for sign in signs}
    return led_to | {(moods[0], more_moods[0])} <= set(paper)


def triples_by_pair(moods, most, paper):
    """The heights by pairs; None if the paper is no tuple of triples of these moods, none twice."""
    if type(paper) is not tuple:
        return None
    found = {}
    for triple in paper:
        if not (type(triple) is tuple and len(triple) == 3 and type(triple[2]) is int and 1 <= triple[2] <= most):
            return None
        if not all(type(part) is str and part in moods for part in triple[:2]) or triple[:2] in found:
            return None
        found[triple[:2]] = triple[2]
    return found


def plain_last(text, number, paper):
    if not (is_text(text) and type(number) is int and 0 <= number <= 1000):
        return False
    signs, all_moods, good, goals = read(text)
    moods = set(coming(text))
    heights = triples_by_pair(moods, number, paper)
    if heights is None:
        return False
    for p in moods:
        for q in moods:
            behind = [(goals[p, sign], goals[q, sign]) for sign in signs]
            if (p, q) not in heights:
                if (p in good) != (q in good) or any(pair in heights for pair in behind):
                    return False
            elif any(pair in heights and heights[pair] >= heights[p, q] for pair in behind):
                return False
    return True


def plain_windows(text, number, paper):
    if not (is_text(text) and type(number) is int and 1 <= number <= 1000):
        return False
    signs, all_moods, good, goals = read(text)
    live = live_moods(text)
    moods = set(coming(text)) & live
    heights = triples_by_pair(moods, number - 1, paper)
    if heights is None:
        return False
    for p in moods:
        for q in moods:
            behind = [(goals[p, sign], goals[q, sign]) for sign in signs]
            both = [pair for pair in behind if set(pair) <= live]
            if (p, q) not in heights:
                none = [pair for pair in behind if not set(pair) & live]
                if (p in good) != (q in good) or len(both) + len(none) < len(signs):
                    return False
                if any(pair in heights for pair in both):
                    return False
            elif any(pair in heights and heights[pair] >= heights[p, q] for pair in both):
                return False
    return True


def plain_never(text, kind, paper):
    if not (is_text(text) and type(kind) is str and kind in KINDS):
        return False
    return type(paper) is tuple and len(paper) in SIZES[kind] and is_never_paper(text, kind, paper)


def plain_accepts(claim, paper):
    """What the checker must tell."""
    checks = {"apart": plain_apart, "within": plain_within, "last": plain_last, "windows": plain_windows,
              "never": plain_never}
    if not (type(claim) is tuple and len(claim) == 3 and type(claim[0]) is str and claim[0] in checks):
        return False
    return checks[claim[0]](claim[1], claim[2], paper)


def rule_variants(text):
    """The texts of the rules that differ in one mood or one sign of a mood, and some that are no texts."""
    rule = Rule(text)
    for mood in rule.moods:
        yield rule.turn(mood).text
        for sign in rule.signs:
            for goal in rule.moods:
                yield rule.lead(mood, sign, goal).text
    yield text + "\n"
    yield text[:-1] + "Z"
    yield text.replace("good", "goods")


def variants(value):
    """Values that differ from one in one part, at any depth."""
    if type(value) is tuple:
        for at, part in enumerate(value):
            for other in variants(part):
                yield value[:at] + (other,) + value[at + 1:]
            yield value[:at] + value[at + 1:]
            yield value[:at] + (part,) + value[at:]
        yield value[::-1]
        yield value + ((),)
        yield list(value)
    elif type(value) is int:
        yield from (value + 1, value - 1, 0, 1, 2, -1, 1000, 1001, 10 ** 39, str(value), value == 1)
    elif is_text(value):
        yield from rule_variants(value)
    else:
        yield from (value + "a", value + "b", "a" + value, "b" + value, value[1:], value[:-1], value + "z", value + "\n",
                    value.upper() + "A", "", "a", "b", "maa", "mab", "p", "last", "sets", [value], (value,),
                    value.encode())
    yield from (odd for odd in odd_values() if type(odd) not in (tuple, int))
