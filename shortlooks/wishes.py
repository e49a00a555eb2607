"""What can be asked of one rule: a word, and behind it a kind, a kind and a number, or a row.

A claim of a desk about one rule is such a wish with the name of the rule behind the word.
"""

from shortlooks.errors import TooMany
from shortlooks.hulls import extra
from shortlooks.keeping import kept, least_look
from shortlooks.limits import MOST_PIECE
from shortlooks.looks import is_kind, is_number
from shortlooks.nevers import same_look
from shortlooks.texts import LETTERS, is_row_of, made_of

MOST_ASKED = 6
KINDS_WITHOUT_SETS = ("last", "ends", "windows")


def is_wish(value, kinds):
    """Whether a value is a wish; these are the kinds that may be asked to keep a rule."""
    if not (isinstance(value, tuple) and len(value) > 1 and isinstance(value[0], str)):
        return False
    word, *rest = value
    if word == "kept":
        return len(rest) == 2 and is_kind(rest[0], kinds) and is_number(rest[0], rest[1], MOST_ASKED)
    if len(rest) != 1:
        return False
    if word == "never":
        return is_kind(rest[0], KINDS_WITHOUT_SETS)
    return word in ("good", "bad") and is_row_of(rest[0], LETTERS)


def is_kept(rule, kind, number):
    """Whether the watcher keeps the rule; also not if that cannot be told."""
    try:
        return kept(rule, kind, number)
    except TooMany:
        return False


def is_good_row(rule, row):
    """Whether a row of letters is good; one with other signs than those of the rule is not."""
    return made_of(row, rule.signs) and rule.has(row)


def holds(rule, wish):
    """Whether a wish is so for a rule."""
    word, *rest = wish
    if word == "kept":
        return is_kept(rule, rest[0], rest[1])
    if word == "never":
        return least_look(rule, rest[0]) is None
    return is_good_row(rule, rest[0]) == (word == "good")


def evidence(rule, wish):
    """What shows that a wish is not so for a rule; None if nothing is told for it."""
    word, *rest = wish
    if word == "never":
        return least_look(rule, rest[0])
    if word != "kept":
        return None
    kind, number = rest
    if kind in ("last", "ends"):
        return same_look(rule, kind, number)
    return extra(rule, number) if kind == "windows" and number <= MOST_PIECE else None
