"""Rules compared for all rows: least forms, and the first rows that show something.

Much of this is about states that are no moods of a rule, such as pairs of moods: a state to start with, and a function
`step` from a state and a sign to a state. A state is whatever can be a key of a dict.
"""

from shortlooks.errors import InvalidNumber, TooMany
from shortlooks.limits import MOST_MOODS, MOST_ROW, in_bounds
from shortlooks.rules import Rule, check_fit, check_rule
from shortlooks.texts import LETTERS, write_rule


def explored(signs, starts, step, most):
    """The states that come behind rows, in the order of their first rows, and for each one the numbers of its goals.

    The rows may lead from several different states. TooMany if more than `most` come.
    """
    numbers = {start: number for number, start in enumerate(starts)}
    states = list(starts)
    goals = []
    while len(goals) < len(states):
        state = states[len(goals)]
        places = []
        for sign in signs:
            goal = step(state, sign)
            if goal not in numbers:
                numbers[goal] = len(states)
                states.append(goal)
            places.append(numbers[goal])
        goals.append(places)
        if len(states) > most:
            raise TooMany(most)
    return states, goals


def row_back(came, state):
    """The row that leads to a state, read off from where each state came, and by which sign."""
    signs = []
    while came[state] is not None:
        state, sign = came[state]
        signs.append(sign)
    return "".join(reversed(signs))


def first_row(signs, start, step, wanted):
    """The first row, in their order, that leads to a state that is wanted; None if there is none."""
    came = {start: None}
    states = [start]
    at = 0
    while at < len(states):
        state = states[at]
        if wanted(state):
            return row_back(came, state)
        for sign in signs:
            goal = step(state, sign)
            if goal not in came:
                came[goal] = (state, sign)
                states.append(goal)
        at += 1
    return None


class Lots:
    """States in lots, at first all in one."""

    def __init__(self, number):
        self.homes = [0 for state in range(number)]
        self.members = [{state: True for state in range(number)}]

    def part(self, touched):
        """Parts each lot into the touched states and the others; the fewer of them become a new lot, the last one."""
        found = {}
        for state in touched:
            found.setdefault(self.homes[state], []).append(state)
        for lot, states in found.items():
            if len(states) < len(self.members[lot]):
                self.move(lot, self.fewer(lot, states))

    def fewer(self, lot, states):
        """These states of a lot or the others, whichever are fewer."""
        if 2 * len(states) <= len(self.members[lot]):
            return states
        touched = {state: True for state in states}
        return [state for state in self.members[lot] if state not in touched]

    def move(self, lot, states):
        """Makes these states of a lot a new one."""
        for state in states:
            del self.members[lot][state]
            self.homes[state] = len(self.members)
        self.members.append({state: True for state in states})


def sources_by_sign(goals):
    """For each sign and each state the states from which this sign leads to it."""
    sources = [[[] for place in goals] for column in goals[0]]
    for state, places in enumerate(goals):
        for sign, goal in enumerate(places):
            sources[sign][goal].append(state)
    return sources


def alike_lots(goals, good, most):
    """For each state the number of its lot; those that no row parts have the same one. TooMany if there are more.

    Of a lot that is parted only the smaller part has to be asked once more what leads to it: what leads to the whole
    and not to this part leads to the other one. So a state is asked for seldom, also among many thousands.
    """
    lots = Lots(len(goals))
    lots.part([state for state, flag in enumerate(good) if flag])
    sources = sources_by_sign(goals)
    at = 1
    while at < len(lots.members):
        if len(lots.members) > most:
            raise TooMany(most)
        asked = list(lots.members[at])
        for ahead in sources:
            lots.part([source for state in asked for source in ahead[state]])
        at += 1
    return lots.homes


def mood_name(number):
    """The name of the mood with this number in a least form."""
    return "m" + LETTERS[number // len(LETTERS)] + LETTERS[number % len(LETTERS)]


def least_rule(signs, goals, good):
    """The least form of a rule that is told by numbered goals and good states; TooMany if it has too many moods.

    All states come, and in the order of their first rows, so that the lots first come in the order of their moods.
    """
    homes = alike_lots(goals, good, MOST_MOODS)
    firsts = {}
    for state, lot in enumerate(homes):
        firsts.setdefault(lot, state)
    names = {lot: mood_name(number) for number, lot in enumerate(firsts)}
    chosen = [names[lot] for lot in firsts if good[firsts[lot]]]
    leads = {}
    for lot, state in firsts.items():
        for sign, goal in zip(signs, goals[state]):
            leads[names[lot], sign] = names[homes[goal]]
    return Rule(write_rule(signs, list(names.values()), chosen, leads))


def formed(signs, start, step, is_good, most):
    """The least form of the rule whose moods are the states that come; TooMany if these are more than `most`."""
    states, goals = explored(signs, [start], step, most)
    return least_rule(signs, goals, [is_good(state) for state in states])


def first_moods(one, other):
    """The pair of the first moods of two rules."""
    return one.moods[0], other.moods[0]


def pair_step(one, other):
    """The function from a pair of moods of two rules and a sign to the pair to which it leads."""
    return lambda pair, sign: (one.goals[pair[0], sign], other.goals[pair[1], sign])


def pair_test(one, other, test):
    """The function that asks the test, for a pair of moods of two rules, whether each of the two is good."""
    good_one = {mood: True for mood in one.good}
    good_other = {mood: True for mood in other.good}
    return lambda pair: test(pair[0] in good_one, pair[1] in good_other)


def first_shown(one, other, test):
    """The first row for which the test holds of whether it is good for each of two rules; None if there is none."""
    return first_row(one.signs, first_moods(one, other), pair_step(one, other), pair_test(one, other, test))


def joined(one, other, test):
    """The least form of the rule whose good rows are those for which the test holds, as in `first_shown`."""
    most = len(one.moods) * len(other.moods)
    return formed(one.signs, first_moods(one, other), pair_step(one, other), pair_test(one, other, test), most)


# What is asked of one rule is asked of this rule beside itself: both are always in the same mood, so no pair is added.


def least_form(rule):
    """The rule that is alike with the fewest moods, which are named in the order in which they come."""
    check_rule(rule)
    return joined(rule, rule, lambda left, right: left)


def first_good(rule):
    """The first good row; None if there is none."""
    check_rule(rule)
    return first_shown(rule, rule, lambda left, right: left)


def parting(one, other):
    """The first row that is good for just one of two rules; None if they are alike."""
    check_fit(one, other)
    return first_shown(one, other, lambda left, right: left != right)


def alike(one, other):
    """Whether two rules have the same good rows."""
    return parting(one, other) is None


def within(one, other):
    """Whether all good rows of the one are good rows of the other."""
    check_fit(one, other)
    return first_shown(one, other, lambda left, right: left and not right) is None


def many(rule, number):
    """How many good rows of this length there are."""
    check_rule(rule)
    if not in_bounds(number, 0, MOST_ROW):
        raise InvalidNumber(number)
    counts = {mood: 0 for mood in rule.moods}
    counts[rule.moods[0]] = 1
    for length in range(number):
        longer = {mood: 0 for mood in rule.moods}
        for mood, sign in rule.goals:
            longer[rule.goals[mood, sign]] += counts[mood]
        counts = longer
    return sum([counts[mood] for mood in rule.good])
