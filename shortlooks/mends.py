"""Least lots of changes of a rule with which wishes come true."""

from shortlooks.errors import InvalidChanges, InvalidWishes
from shortlooks.limits import MOST_CHANGES
from shortlooks.rules import check_rule
from shortlooks.wishes import KINDS_WITHOUT_SETS, holds, is_wish


def check_wishes(wishes):
    """Raises InvalidWishes if a value is no tuple of wishes."""
    if not isinstance(wishes, tuple):
        raise InvalidWishes(None)
    for index, wish in enumerate(wishes):
        if not is_wish(wish, KINDS_WITHOUT_SETS):
            raise InvalidWishes(index)


def is_change(rule, value):
    """Whether a value is a change of a rule."""
    if not isinstance(value, tuple):
        return False
    if len(value) == 3:
        return rule.is_mood(value[0]) and rule.is_sign(value[1]) and rule.is_mood(value[2])
    return len(value) == 1 and rule.is_mood(value[0])


def check_changes(rule, changes):
    """Raises InvalidChanges if a value is no tuple of changes of a rule, each one of something else, not too many."""
    if not isinstance(changes, tuple):
        raise InvalidChanges(None)
    changed = {}
    for index, change in enumerate(changes):
        if index == MOST_CHANGES or not is_change(rule, change):
            raise InvalidChanges(index)
        place = change[:2]
        if place in changed:
            raise InvalidChanges(index)
        changed[place] = True


def all_lots(number):
    """All ascending tuples of different places among so many, ordered by length, then as tuples."""
    lots = [()]
    at = 0
    while at < len(lots):
        lot = lots[at]
        first = lot[-1] + 1 if lot else 0
        lots.extend([(*lot, place) for place in range(first, number)])
        at += 1
    return lots


def changed_rule(rule, changes):
    """The rule with all these changes."""
    for change in changes:
        rule = rule.turn(change[0]) if len(change) == 1 else rule.lead(change[0], change[1], change[2])
    return rule


def is_part(part, lot):
    """Whether all places of the one are places of the other."""
    return all([place in lot for place in part])


def mending(rule, wishes, changes):
    """All least lots of changes with which all wishes hold."""
    check_rule(rule)
    check_wishes(wishes)
    check_changes(rule, changes)
    found = []
    for lot in all_lots(len(changes)):
        # A part of a lot is shorter, so it has been asked ahead of it.
        if any([is_part(least, lot) for least in found]):
            continue
        other = changed_rule(rule, [changes[place] for place in lot])
        if all([holds(other, wish) for wish in wishes]):
            found.append(lot)
    return tuple(found)
