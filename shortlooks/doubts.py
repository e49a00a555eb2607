"""Ends of rows: those that tell whether a row is good, and those that leave a doubt."""

from shortlooks.errors import InvalidNumber, InvalidRow, TooMany
from shortlooks.forms import Form
from shortlooks.limits import MOST_LOTS, MOST_ROW, in_bounds
from shortlooks.rules import check_rule
from shortlooks.texts import is_row_of

VERDICTS = ("good", "bad", "doubt")


def lot_verdict(form, lot):
    """What a row tells that leads all moods to this lot of moods."""
    flags = [form.flags[mood] for mood in lot]
    if all(flags):
        return "good"
    return "doubt" if any(flags) else "bad"


def lot_behind(form, lot, sign):
    """The lot of moods to which a sign leads those of a lot, ascending."""
    return tuple(sorted({form.step(mood, sign) for mood in lot}))


def counted_lots(form, number):
    """The lots to which rows of just so many signs lead all moods, each one with the number of these rows.

    TooMany if rows of at most so many signs lead to too many lots.
    """
    lots = [tuple(range(len(form.table)))]
    places = {lots[0]: 0}
    goals = []
    counts = [1]
    for length in range(number):
        for lot in lots[len(goals):]:
            behind = [lot_behind(form, lot, sign) for sign in form.letters]
            for goal in behind:
                places.setdefault(goal, len(places))
            goals.append([places[goal] for goal in behind])
        lots = list(places)
        if len(lots) > MOST_LOTS:
            raise TooMany(MOST_LOTS)
        longer = [0 for lot in lots]
        for place, count in enumerate(counts):
            for goal in goals[place]:
                longer[goal] += count
        counts = longer
    return list(zip(lots, counts))


def doubts(rule, number):
    """How many rows of so many signs, seen at the end, are sure and good, sure and bad, and leave a doubt."""
    check_rule(rule)
    if not in_bounds(number, 0, MOST_ROW):
        raise InvalidNumber(number)
    form = Form(rule)
    sums = {told: 0 for told in VERDICTS}
    for lot, count in counted_lots(form, number):
        sums[lot_verdict(form, lot)] += count
    return tuple([sums[told] for told in VERDICTS])


def verdict(rule, row):
    """What this row tells, seen at the end: good, bad or doubt."""
    check_rule(rule)
    if not is_row_of(row, rule.signs):
        raise InvalidRow(row)
    form = Form(rule)
    lot = tuple(range(len(form.table)))
    for sign in row:
        lot = lot_behind(form, lot, sign)
    return lot_verdict(form, lot)
