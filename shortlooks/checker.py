"""Papers for claims, checked clause by clause. What tells the answers elsewhere is not used here."""

from shortlooks.errors import InvalidText
from shortlooks.limits import MOST_LOOK, in_bounds
from shortlooks.rules import Rule
from shortlooks.texts import made_of


def rule_of(text):
    """The rule with a text; None if the value is no text of a rule."""
    try:
        return Rule(text)
    except InvalidText:
        return None


def two_rules(one, other):
    """The two rules with these texts, if they fit; None otherwise."""
    rules = rule_of(one), rule_of(other)
    if rules[0] is None or rules[1] is None or rules[0].signs != rules[1].signs:
        return None
    return rules


def as_set(words):
    """A dict with these words, in which they are found quickly."""
    return {word: True for word in words}


def walked(rule, mood, rows):
    """The mood to which rows of any lengths, one behind the other, lead from a mood."""
    for row in rows:
        for sign in row:
            mood = rule.goals[mood, sign]
    return mood


def ends_good(rule, mood, rows):
    """Whether rows, one behind the other, lead from a mood to a good one."""
    return walked(rule, mood, rows) in rule.good


def is_row(rule, value):
    """Whether a value is a row of signs of a rule, of any length."""
    return isinstance(value, str) and made_of(value, rule.signs)


def shows_apart(one, other, paper):
    """Whether the paper is a row that is good for just one of two rules."""
    rules = two_rules(one, other)
    if rules is None or not is_row(rules[0], paper):
        return False
    flags = [ends_good(rule, rule.moods[0], [paper]) for rule in rules]
    return flags[0] != flags[1]


def read_pairs(one, other, paper):
    """The pairs of moods of two rules in a paper, in a dict; None if it is no such paper."""
    words, others = as_set(one.moods), as_set(other.moods)
    if not isinstance(paper, tuple):
        return None
    pairs = {}
    for pair in paper:
        if not (isinstance(pair, tuple) and len(pair) == 2 and all([isinstance(word, str) for word in pair])):
            return None
        if pair[0] not in words or pair[1] not in others or pair in pairs:
            return None
        pairs[pair] = True
    return pairs


def shows_within(one, other, paper):
    """Whether the paper has all pairs of moods that come, and none that is good for the one alone."""
    rules = two_rules(one, other)
    if rules is None:
        return False
    left, right = rules
    pairs = read_pairs(left, right, paper)
    if pairs is None or (left.moods[0], right.moods[0]) not in pairs:
        return False
    good, others = as_set(left.good), as_set(right.good)
    if any([p in good and q not in others for p, q in pairs]):
        return False
    return all([(left.goals[p, sign], right.goals[q, sign]) in pairs for p, q in pairs for sign in left.signs])


def coming_moods(rule):
    """The moods that come behind rows."""
    found = [rule.moods[0]]
    known = as_set(found)
    at = 0
    while at < len(found):
        for sign in rule.signs:
            goal = rule.goals[found[at], sign]
            if goal not in known:
                known[goal] = True
                found.append(goal)
        at += 1
    return found


def live_moods(rule):
    """The moods from which a good one can come, in a dict."""
    sources = {mood: [] for mood in rule.moods}
    for mood, sign in rule.goals:
        sources[rule.goals[mood, sign]].append(mood)
    found = list(rule.good)
    known = as_set(found)
    at = 0
    while at < len(found):
        for source in sources[found[at]]:
            if source not in known:
                known[source] = True
                found.append(source)
        at += 1
    return known


def read_heights(moods, most, paper):
    """For the pairs of these moods in a paper their heights; None if it is no paper of triples up to this height."""
    known = as_set(moods)
    if not isinstance(paper, tuple):
        return None
    heights = {}
    for triple in paper:
        if not (isinstance(triple, tuple) and len(triple) == 3 and in_bounds(triple[2], 1, most)):
            return None
        pair = triple[:2]
        if not all([isinstance(mood, str) and mood in known for mood in pair]) or pair in heights:
            return None
        heights[pair] = triple[2]
    return heights


def shows_last(text, number, paper):
    """Whether the heights of the paper fall with each sign, and pairs without one stay alike."""
    rule = rule_of(text)
    if rule is None or not in_bounds(number, 0, MOST_LOOK):
        return False
    moods = coming_moods(rule)
    heights = read_heights(moods, number, paper)
    if heights is None:
        return False
    good = as_set(rule.good)
    for p in moods:
        for q in moods:
            goals = [heights.get((rule.goals[p, sign], rule.goals[q, sign]), 0) for sign in rule.signs]
            height = heights.get((p, q), 0)
            if height == 0 and ((p in good) != (q in good) or any([goal > 0 for goal in goals])):
                return False
            if height > 0 and any([goal >= height for goal in goals]):
                return False
    return True


def shows_windows(text, number, paper):
    """The same for live moods alone: pairs without a height are led to live moods by the same signs."""
    rule = rule_of(text)
    if rule is None or not in_bounds(number, 1, MOST_LOOK):
        return False
    live = live_moods(rule)
    moods = [mood for mood in coming_moods(rule) if mood in live]
    heights = read_heights(moods, number - 1, paper)
    if heights is None:
        return False
    good = as_set(rule.good)
    for p in moods:
        for q in moods:
            leads = [(rule.goals[p, sign], rule.goals[q, sign]) for sign in rule.signs]
            goals = [heights.get(pair, 0) for pair in leads if pair[0] in live and pair[1] in live]
            height = heights.get((p, q), 0)
            if height == 0 and ((p in good) != (q in good) or any([goal > 0 for goal in goals])):
                return False
            if height == 0 and any([(left in live) != (right in live) for left, right in leads]):
                return False
            if height > 0 and any([goal >= height for goal in goals]):
                return False
    return True


def stay_apart(rule, p, q, x, z):
    """Whether x leads two moods to themselves, and z just one of them to a good mood."""
    if len(x) == 0 or walked(rule, p, [x]) != p or walked(rule, q, [x]) != q:
        return False
    return ends_good(rule, p, [z]) != ends_good(rule, q, [z])


def shows_never_last(rule, paper):
    """Whether rows are a paper for never for last."""
    if len(paper) != 4:
        return False
    u, v, x, z = paper
    return stay_apart(rule, walked(rule, rule.moods[0], [u]), walked(rule, rule.moods[0], [v]), x, z)


def shows_never_ends(rule, paper):
    """Whether rows are a paper for never for ends."""
    if len(paper) != 6:
        return False
    a, y, u, v, x, z = paper
    s = walked(rule, rule.moods[0], [a])
    if len(y) == 0 or walked(rule, s, [y]) != s:
        return False
    return stay_apart(rule, walked(rule, s, [u]), walked(rule, s, [v]), x, z)


def shows_never_windows(rule, paper):
    """Whether rows are a paper for never for windows."""
    if len(paper) != 5:
        return False
    u, v, x, z, w = paper
    p, q = walked(rule, rule.moods[0], [u]), walked(rule, rule.moods[0], [v])
    return stay_apart(rule, p, q, x, z) and ends_good(rule, p, [z]) and ends_good(rule, q, [w])


def shows_never_sets(rule, paper):
    """Whether rows are a paper for never for sets."""
    if len(paper) not in (4, 5):
        return False
    u, x, s, *others, v = paper
    way = {mood: walked(rule, mood, [x]) for mood in rule.moods}
    if len(x) == 0 or any([way[goal] != goal for goal in way.values()]):
        return False
    left, right = [u, x, s, x, v], [u, x, s, x, s, x, v]
    if others:
        left, right = [u, x, s, x, others[0], x, v], [u, x, others[0], x, s, x, v]
    return ends_good(rule, rule.moods[0], left) != ends_good(rule, rule.moods[0], right)


NEVERS = {
    "last": shows_never_last,
    "ends": shows_never_ends,
    "windows": shows_never_windows,
    "sets": shows_never_sets,
}


def shows_never(text, kind, paper):
    """Whether the paper is a paper for never, for the moods of the rule with this text."""
    rule = rule_of(text)
    if rule is None or not (isinstance(kind, str) and kind in NEVERS):
        return False
    if not (isinstance(paper, tuple) and all([is_row(rule, row) for row in paper])):
        return False
    check = NEVERS[kind]
    return check(rule, paper)


CLAIMS = {
    "apart": shows_apart,
    "within": shows_within,
    "last": shows_last,
    "windows": shows_windows,
    "never": shows_never,
}


def accepts(claim, paper):
    """Whether a value is a claim for the checker, and another one a paper for it."""
    if not (isinstance(claim, tuple) and len(claim) == 3 and isinstance(claim[0], str) and claim[0] in CLAIMS):
        return False
    check = CLAIMS[claim[0]]
    return check(claim[1], claim[2], paper)
