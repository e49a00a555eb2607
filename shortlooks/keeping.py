"""Which watchers keep a rule, and how long the look must be at least."""

from shortlooks.forms import Form
from shortlooks.looks import check_kind, check_number
from shortlooks.movings import Movings
from shortlooks.pairs import ENDLESS, Forks, pairs_for_last, pairs_for_windows
from shortlooks.rules import check_rule
from shortlooks.triples import sets_clash


def tallest(form, kind):
    """The least number for last or windows, as the greatest height tells it; at least ENDLESS if there is none."""
    if kind == "last":
        return pairs_for_last(form).tallest()
    # A piece is one sign longer than the rows that must lead all live moods to one.
    return pairs_for_windows(form).tallest() + 1


def least_for_ends(form):
    """The least number with which ends keeps the rule; None if there is none."""
    forks = Forks(form)
    if forks.endless_fork() is not None:
        return None
    # Behind so many signs as there are moods, all moods have come again, and the heights that are not endless are
    # fewer than the moods they are about: so this number is enough.
    low = 1
    high = len(form.table)
    while low < high:
        middle = (low + high) // 2
        if forks.fork_for(middle) is None:
            high = middle
        else:
            low = middle + 1
    return low


def least_for_sets(form):
    """The least number with which sets keeps the rule; None if there is none; TooMany as `least_look` tells it."""
    if Movings(form).fault() is not None:
        return None
    number = 1
    while sets_clash(form, number) is not None:
        number += 1
    return number


def kept(rule, kind, number):
    """Whether the watcher of this kind with this number keeps the rule."""
    check_rule(rule)
    check_kind(kind)
    check_number(kind, number)
    form = Form(rule)
    if kind == "sets":
        return sets_clash(form, number) is None
    if kind == "ends":
        return Forks(form).fork_for(number) is None
    return tallest(form, kind) <= number


def least_look(rule, kind):
    """The least number with which a watcher of this kind keeps the rule; None if there is none."""
    check_rule(rule)
    check_kind(kind)
    form = Form(rule)
    if kind == "sets":
        return least_for_sets(form)
    if kind == "ends":
        return least_for_ends(form)
    number = tallest(form, kind)
    return number if number < ENDLESS else None
