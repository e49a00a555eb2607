"""Claims for the checker with papers for them."""

from shortlooks.comparing import explored, first_moods, least_form, pair_step, parting, within
from shortlooks.errors import Kept
from shortlooks.forms import Form
from shortlooks.looks import check_kind, check_number
from shortlooks.nevers import never
from shortlooks.pairs import pairs_for_last, pairs_for_windows
from shortlooks.rules import check_rule

CERTIFIED_KINDS = ("last", "windows")


def certify_apart(one, other):
    """The claim that two rules are not alike, and a row that parts them; None if they are alike."""
    row = parting(one, other)
    if row is None:
        return None
    return ("apart", one.text, other.text), row


def certify_within(one, other):
    """The claim that all good rows of the one are good rows of the other, and all pairs of moods that come."""
    if not within(one, other):
        return None
    most = len(one.moods) * len(other.moods)
    pairs, goals = explored(one.signs, [first_moods(one, other)], pair_step(one, other), most)
    return ("within", one.text, other.text), tuple(pairs)


def numbered_moods(rule, form):
    """The moods of a rule that come, each one with the number of the mood of the least form that is alike."""
    states, goals = explored(
        rule.signs, [(rule.moods[0], 0)],
        lambda state, sign: (rule.goals[state[0], sign], form.step(state[1], sign)),
        len(rule.moods))
    return states


def certify_kept(rule, kind, number):
    """The claim that the watcher keeps the rule, and the heights of all pairs of moods; None if it does not."""
    check_rule(rule)
    check_kind(kind, CERTIFIED_KINDS)
    check_number(kind, number)
    form = Form(rule)
    pairs = pairs_for_last(form) if kind == "last" else pairs_for_windows(form)
    most = number if kind == "last" else number - 1
    if pairs.taller(most) is not None:
        return None
    moods = numbered_moods(rule, form)
    triples = [(p, q, pairs.height(one, other)) for p, one in moods for q, other in moods]
    return (kind, rule.text, number), tuple([triple for triple in triples if triple[2] > 0])


def certify_never(rule, kind):
    """The claim that no watcher of this kind keeps the least form of the rule, and a paper; None if one does."""
    try:
        paper = never(rule, kind)
    except Kept:
        return None
    return ("never", least_form(rule).text, kind), paper
