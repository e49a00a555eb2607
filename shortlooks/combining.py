"""Rules made from others, in their least forms."""

from shortlooks.comparing import formed, joined, least_form
from shortlooks.limits import MOST_MOODS, MOST_PAIRS
from shortlooks.rules import check_fit, check_rule


def both(one, other):
    """Good are the rows that are good for both."""
    check_fit(one, other)
    return joined(one, other, lambda left, right: left and right)


def either(one, other):
    """Good are the rows that are good for at least one of them."""
    check_fit(one, other)
    return joined(one, other, lambda left, right: left or right)


def without(one, other):
    """Good are the rows that are good for the one and not for the other."""
    check_fit(one, other)
    return joined(one, other, lambda left, right: left and not right)


def otherwise(rule):
    """Good are the rows that are not good for the rule."""
    check_rule(rule)
    return joined(rule, rule, lambda left, right: not left)


def behind(one, other):
    """Good are the rows that are a good row of the one and behind it a good row of the other."""
    check_fit(one, other)
    front = least_form(one)
    back = least_form(other)
    good_front = {mood: True for mood in front.good}
    good_back = {mood: True for mood in back.good}

    def with_ends(mood, ends):
        """A mood of the front and the moods of the back that ends lead to, the empty end too if the front is good."""
        begun = [back.moods[0]] if mood in good_front else []
        return mood, tuple(sorted(set(ends + begun)))

    def step(state, sign):
        mood, ends = state
        return with_ends(front.goals[mood, sign], [back.goals[end, sign] for end in ends])

    def is_good(state):
        return any([end in good_back for end in state[1]])

    return formed(one.signs, with_ends(front.moods[0], []), step, is_good, MOST_PAIRS)


def turned(rule):
    """Good are the good rows read from behind."""
    # The state behind a row is the lot of moods that the row, read from behind, leads to good ones. All moods of the
    # least form come, so unlike lots are unlike moods of the result, and there are never too many lots in vain.
    form = least_form(rule)

    def step(lot, sign):
        known = {mood: True for mood in lot}
        return tuple([mood for mood in form.moods if form.goals[mood, sign] in known])

    return formed(form.signs, form.good, step, lambda lot: form.moods[0] in lot, MOST_MOODS)
