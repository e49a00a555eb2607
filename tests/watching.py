"""Slow and plain ways to tell what watchers keep, from the texts of rules alone, and rules that are made for them."""

import itertools
import random

from tests.plain import least_text, led, read
from tests.samples import all_rows, many_words, written

KINDS = ("last", "ends", "windows", "sets")


def plain_look(kind, number, row):
    """The look of a row of any length."""
    if kind == "last":
        return (row, True) if len(row) < number else (row[len(row) - number:], False)
    if kind == "ends":
        return (row, True) if len(row) < 2 * number else (row[:number], row[-number:])
    marked = ">" + row + "<"
    found = {marked[at:at + number] for at in range(len(marked) - number + 1)}
    return frozenset(found) if found else frozenset([marked])


def is_good(text, row):
    """Whether a row of any length is good."""
    signs, moods, good, goals = read(text)
    return led(goals, moods[0], row) in good


def unlike_pairs(moods):
    return set(itertools.permutations(moods, 2))


def stepped(goals, signs, pairs, counted):
    """The pairs of two different moods that count to which one sign leads the pairs."""
    found = {(goals[p, sign], goals[q, sign]) for p, q in pairs for sign in signs}
    return {(p, q) for p, q in found if p != q and p in counted and q in counted}


def reached(goals, signs, mood):
    found = {mood}
    while True:
        more = found | {goals[one, sign] for one in found for sign in signs}
        if more == found:
            return found
        found = more


def live_moods(text):
    signs, moods, good, goals = read(text)
    return {mood for mood in moods if reached(goals, signs, mood) & set(good)}


def plain_kept(text, kind, number):
    """Whether the rule is kept, by steps of sets of pairs, or by the triples."""
    text = least_text(text)
    signs, moods, good, goals = read(text)
    if kind == "sets":
        told = {}
        for pieces, last, mood in triples_of(text, number):
            told.setdefault((pieces, last), set()).add(mood in good)
        return all(len(flags) == 1 for flags in told.values())
    counted, pairs, steps = set(moods), unlike_pairs(moods), number
    if kind == "windows":
        counted = live_moods(text)
        pairs, steps = unlike_pairs(counted), number - 1
    elif kind == "ends":
        starts = {moods[0]}
        for step in range(number):
            starts = {goals[mood, sign] for mood in starts for sign in signs}
        pairs = set().union(*[unlike_pairs(reached(goals, signs, start)) for start in starts])
    for step in range(steps):
        pairs = stepped(goals, signs, pairs, counted)
    return not pairs


def plain_least(text, kind, most):
    """The least number up to a bound with which the rule is kept; None if there is none."""
    for number in range(0 if kind == "last" else 1, most + 1):
        if plain_kept(text, kind, number):
            return number
    return None


def is_kept_for(text, kind, number, rows):
    """Whether these rows agree with it that the rule is kept."""
    good = {row: is_good(text, row) for row in rows}
    if kind == "windows":
        pieces = set().union(*[plain_look(kind, number, row) for row in rows if good[row]])
        return all(good[row] == (plain_look(kind, number, row) <= pieces) for row in rows)
    seen = {}
    return all(seen.setdefault(plain_look(kind, number, row), good[row]) == good[row] for row in rows)


def triples_of(text, number, most=20000):
    """The triples that come for sets, as the document tells them."""
    signs, moods, good, goals = read(least_text(text))

    def triple(row):
        marked = ">" + row
        pieces = frozenset(marked[at:at + number] for at in range(len(marked) - number + 1))
        return pieces, marked[len(marked) - number + 1:], led(goals, moods[0], row)

    rows = ["".join(row) for row in itertools.product(signs, repeat=max(number - 2, 0))]
    known = {triple(row) for row in rows}
    found = list(known)
    for pieces, last, mood in found:
        for sign in signs:
            piece = last + sign
            new = pieces | {piece}, piece[1:], goals[mood, sign]
            if new not in known:
                known.add(new)
                found.append(new)
        assert len(found) <= most
    return found


def movings_of(text):
    """The unlike ways in which rows of at least one sign lead the moods of the least form."""
    signs, moods, good, goals = read(least_text(text))
    found = []
    known = set()
    for sign in signs:
        way = tuple(goals[mood, sign] for mood in moods)
        if way not in known:
            known.add(way)
            found.append(way)
    for way in found:
        for sign in signs:
            new = tuple(goals[mood, sign] for mood in way)
            if new not in known:
                known.add(new)
                found.append(new)
    return found


def lots_of(text, number):
    """The lots to which rows of at most so many signs lead all moods of the least form."""
    signs, moods, good, goals = read(least_text(text))
    known = lots = {frozenset(moods)}
    for step in range(number):
        lots = {frozenset(goals[mood, sign] for mood in lot) for lot in lots for sign in signs} - known
        known = known | lots
    return known


def explored_text(signs, start, step, good):
    """The text of the rule with these states as moods."""
    states = [start]
    for state in states:
        for sign in signs:
            if step(state, sign) not in states:
                states.append(step(state, sign))
    words = dict(zip(states, many_words(len(states))))
    return written(signs, list(words.values()), [words[state] for state in states if good(state)],
                   [words[step(state, sign)] for state in states for sign in signs])


def look_text(kind, number, signs, told):
    """The text of a rule that the kind keeps with a number: `told` says of a look whether its rows are good."""
    longest = {"last": number, "ends": 2 * number}.get(kind, number)

    def step(state, sign):
        # Of a row that is long enough one with the same look, and the same looks of all that comes behind it, is kept.
        row = state + sign
        if kind == "last":
            return row[-number:] if number else ""
        if kind == "ends" and len(row) > longest:
            return row[:number] + row[-number:]
        return row

    return explored_text(signs, "", step, lambda row: told(plain_look(kind, number, row)))


def pieces_text(number, signs, told):
    """The same for windows and sets: `told` is asked about the set of pieces."""
    def step(state, sign):
        pieces, last = state
        text = last + sign
        if len(text) < number:
            return pieces, text
        return pieces | {text}, text[1:]

    def good(state):
        pieces, last = state
        return told(pieces | {last + "<"})

    start = (frozenset(), ">") if number > 1 else (frozenset([">"]), "")
    return explored_text(signs, start, step, good)


def forbidding_text(number, signs, let):
    """The text of the rule that lets the rows all of whose pieces are in a set."""
    def step(last, sign):
        if last is None:
            return None
        text = last + sign
        if len(text) < number:
            return text
        return text[1:] if text in let else None

    return explored_text(signs, ">" if number > 1 else "", step,
                         lambda last: last is not None and last + "<" in let and (number > 1 or ">" in let))


def guess(source, chance=0.5):
    """A function that says at random, but always the same of the same value, True or False."""
    told = {}
    return lambda value: told.setdefault(value, source.random() < chance)


def watched_texts(seed, number):
    """The texts of rules, each with a kind that keeps it, and a number that is enough."""
    source = random.Random(seed)
    found = []
    for step in range(number):
        kind = KINDS[step % 4]
        signs = source.choice(["a", "ab", "ab", "ab", "abc"])
        if kind == "last":
            size = source.randint(0, 3)
            text = look_text(kind, size, signs, guess(source))
        elif kind == "ends":
            size = source.randint(1, 2) if len(signs) < 3 else 1
            text = look_text(kind, size, signs, guess(source))
        elif kind == "sets":
            size = source.randint(1, 2) if len(signs) < 3 else 1
            text = pieces_text(size, signs, guess(source))
        else:
            size = source.randint(1, 3)
            let = {">"[:start] + "".join(row) + "<"[:over]
                   for length in range(size + 1) for row in itertools.product(signs, repeat=length)
                   for start in (0, 1) for over in (0, 1)
                   if length + start + over == size or start and over and length + 2 < size}
            text = forbidding_text(size, signs, {piece for piece in sorted(let) if source.random() < 0.8})
        found.append((text, kind, size))
    return found


def sparse_texts(seed, number):
    """Texts of rules with a mood that is not live, to which many signs lead."""
    source = random.Random(seed)
    found = []
    for step in range(number):
        live, chance = source.randint(3, 9), source.choice([0.3, 0.5, 0.7])
        moods = many_words(live + 1)
        goals = [moods[source.randrange(live) if source.random() < chance else live] for goal in range(2 * live)]
        good = [mood for mood in moods[:live] if source.random() < 0.5]
        found.append(written("ab", moods, good, goals + moods[live:] * 2))
    return found


def chain_text(number, signs="ab", good=None):
    """So many moods in a chain: each sign leads to the next one, from the last one to itself, which is good."""
    moods = many_words(number)
    goals = [moods[min(at + 1, number - 1)] for at in range(number) for sign in signs]
    return written(signs, moods, moods[-1:] if good is None else [moods[at] for at in good], goals)


def counting_text(number):
    """`a` leads to the next of so many moods, from the last one to itself, which is good; `b` leads to the same mood."""
    moods = many_words(number)
    goals = [goal for at in range(number) for goal in (moods[min(at + 1, number - 1)], moods[at])]
    return written("ab", moods, moods[-1:], goals)


def reset_text(tail, ring, good):
    """Moods like those of `tail_rule` by `a`; `b` leads to the first mood."""
    number = tail + ring
    moods = many_words(number)
    goals = [goal for at in range(number) for goal in (moods[at + 1 if at + 1 < number else tail], moods[0])]
    return written("ab", moods, [moods[at] for at in good], goals)


def lift_text(number):
    """`a` leads one mood up, `b` one mood down, as far as there are moods; the first is good."""
    moods = many_words(number)
    goals = [goal for at in range(number) for goal in (moods[min(at + 1, number - 1)], moods[max(at - 1, 0)])]
    return written("ab", moods, moods[:1], goals)


def short_rows(signs):
    """All rows of a few signs."""
    return list(all_rows(signs, {1: 20, 2: 9, 3: 6}[len(signs)]))


def skipping_text(ring, tail, good, skip):
    """Moods like those of `tail_rule` by both signs, but from the first ones `b` leads one mood further."""
    number = ring + tail
    following = list(range(1, number)) + [tail]
    moods = many_words(number)
    goals = [moods[goal] for at in range(number)
             for goal in (following[at], following[following[at]] if at < skip else following[at])]
    return written("ab", moods, [moods[at] for at in good], goals)


def is_never_paper(text, kind, paper):
    """Whether rows are a paper for never, for the moods of this rule."""
    signs, moods, good, goals = read(text)
    if not (type(paper) is tuple and all(type(row) is str and set(row) <= set(signs) for row in paper)):
        return False

    def go(row, mood=moods[0]):
        return led(goals, mood, row)

    if kind == "last":
        u, v, x, z = paper
        p, q = go(u), go(v)
        return x != "" and go(x, p) == p and go(x, q) == q and (go(z, p) in good) != (go(z, q) in good)
    if kind == "ends":
        a, y, u, v, x, z = paper
        s = go(a)
        p, q = go(u, s), go(v, s)
        return (x != "" and y != "" and go(y, s) == s and go(x, p) == p and go(x, q) == q
                and (go(z, p) in good) != (go(z, q) in good))
    if kind == "windows":
        u, v, x, z, w = paper
        p, q = go(u), go(v)
        return (x != "" and go(x, p) == p and go(x, q) == q and go(z, p) in good and go(z, q) not in good
                and go(w, q) in good)
    u, x, s, *more, v = paper
    if x == "" or any(go(x + x, mood) != go(x, mood) for mood in moods):
        return False
    if more:
        left, right = u + x + s + x + more[0] + x + v, u + x + more[0] + x + s + x + v
    else:
        left, right = u + x + s + x + v, u + x + s + x + s + x + v
    return len(paper) in (4, 5) and (go(left) in good) != (go(right) in good)
