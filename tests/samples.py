"""What several tests need: texts of rules, written apart from the package, and odd values."""

import itertools
import random
import string

ENDS = "signs ab\nmoods out in\ngood in\nout a in\nout b out\nin a in\nin b out"


class Equal:
    """Says that it equals whatever it is compared with."""

    def __eq__(self, other):
        return True


class Stubborn:
    """Can be neither compared nor hashed nor tested nor shown."""

    __hash__ = None

    def refuse(self, *rest):
        raise RuntimeError("this must not be asked")

    __eq__ = __bool__ = __len__ = __iter__ = __str__ = __repr__ = refuse


def nested(depth):
    """A list in a list and so on, so many deep."""
    value = []
    for step in range(depth - 1):
        value = [value]
    return value


def odd_values():
    """Values that are no strings."""
    return [
        None, True, False, 0, 1, -1, 10 ** 39, b"", b"a", b"out", [], ["a"], ["out"], (), ("a",), ("out",),
        {}, {"a": "out"}, {"out"}, frozenset("a"), range(3), object(), str, len, ValueError("a"),
        Equal(), Stubborn(), nested(20), (("a",), [None, {"a": [1]}]),
    ]


def written(signs, moods, good, goals):
    """The text of a rule; goals are listed for each mood and, within it, for each sign."""
    lines = ["signs " + signs, "moods " + " ".join(moods), " ".join(["good"] + list(good))]
    pairs = [(mood, sign) for mood in moods for sign in signs]
    lines += ["%s %s %s" % (mood, sign, goal) for (mood, sign), goal in zip(pairs, goals)]
    return "\n".join(lines)


def all_rows(signs, longest):
    """All rows of at most so many signs, in their order."""
    for length in range(longest + 1):
        for row in itertools.product(signs, repeat=length):
            yield "".join(row)


def many_words(number):
    """So many different words, of two to eight letters."""
    words = []
    for at in range(number):
        length = at % 7 + 2
        place = at // 7
        ending = string.ascii_lowercase[place // 26 % 26] + string.ascii_lowercase[place % 26]
        words.append("abcdef"[:length - 2] + ending)
    assert len(set(words)) == number
    return words


def round_rule(number, signs="ab", good=()):
    """The text of a rule with so many moods, each of whose signs leads to the next mood, the last to the first."""
    moods = many_words(number)
    goals = [moods[(at + 1) % number] for at in range(number) for sign in signs]
    return written(signs, moods, [moods[at] for at in good], goals)


def tail_rule(tail, number, good, signs="a"):
    """The text of a rule like `round_rule` with so many moods ahead of the first one that comes again."""
    moods = many_words(tail + number)
    following = list(range(1, tail + number)) + [tail]
    goals = [moods[goal] for goal in following for sign in signs]
    return written(signs, moods, [moods[at] for at in good], goals)


def random_parts(source, most=6, signs=None):
    """The signs, moods, good moods and goals of some rule."""
    if signs is None:
        signs = "".join(sorted(source.sample(string.ascii_lowercase, source.randint(1, 3))))
    wanted = source.randint(1, most)
    moods = []
    while len(moods) < wanted:
        word = "".join(source.choices("abgmosdnit", k=source.randint(1, 8)))
        if word not in moods:
            moods.append(word)
    good = [mood for mood in moods if source.random() < 0.5]
    goals = [source.choice(moods) for mood in moods for sign in signs]
    return signs, moods, good, goals


def random_rules(seed, number, most=6):
    """The parts of so many rules, always the same for a seed."""
    source = random.Random(seed)
    return [random_parts(source, most) for step in range(number)]


def random_pairs(seed, number, most=4):
    """The texts of so many pairs of rules that fit one another, always the same for a seed."""
    source = random.Random(seed)
    pairs = []
    for step in range(number):
        signs = source.choice(["a", "ab", "ab", "cx", "abc"])
        pairs.append(tuple([written(*random_parts(source, most, signs)) for side in range(2)]))
    return pairs
