"""The movings of a rule: the unlike ways in which rows of at least one sign lead the moods of its least form."""

from shortlooks.comparing import explored
from shortlooks.limits import MOST_MOVINGS


def first_rows(signs, goals, rows):
    """A row to each explored state, from the rows to those that were explored first and the goals of all."""
    found = list(rows)
    for state, places in enumerate(goals):
        for sign, goal in zip(signs, places):
            if goal == len(found):
                found.append(found[state] + sign)
    return found


def explored_ways(form):
    """A row for each moving, and the numbers of the movings with one sign more; TooMany if there are too many."""

    def step(way, sign):
        return tuple([form.step(mood, sign) for mood in way])

    all_moods = tuple(range(len(form.table)))
    starts = {}
    for sign in form.letters:
        starts.setdefault(step(all_moods, sign), sign)
    ways, goals = explored(form.letters, list(starts), step, MOST_MOVINGS)
    return first_rows(form.letters, goals, list(starts.values())), goals


class Movings:
    """The movings of a form, which are numbered; TooMany if there are too many."""

    def __init__(self, form):
        self.form = form
        self.rows, goals = explored_ways(form)
        self.products = [self.line(goals, one) for one in range(len(goals))]

    def line(self, goals, one):
        """The numbers of the movings by the row of this one and behind it the row of each one."""
        places = {row: number for number, row in enumerate(self.rows)}
        found = []
        for row in self.rows:
            # Rows come behind those that are one sign shorter, so the product with the rest is there.
            ahead = found[places[row[:-1]]] if len(row) > 1 else one
            found.append(goals[ahead][self.form.letters.index(row[-1])])
        return found

    def fault(self):
        """Numbers (x, s) or (x, s, t) of movings for which sets keeps the rule with no number; None if none are."""
        for around, line in enumerate(self.products):
            if line[around] == around:
                found = self.fault_between(around)
                if found is not None:
                    return found
        return None

    def fault_between(self, around):
        """Such a fault with this x, which leads all moods as it does twice."""
        middles = {}
        for middle, product in enumerate(self.products[around]):
            middles.setdefault(self.products[product][around], middle)
        for one, middle in middles.items():
            if self.products[one][one] != one:
                return around, middle
        for one, middle in middles.items():
            line = self.products[one]
            swapped = [other for other in middles if line[other] != self.products[other][one]]
            if swapped:
                return around, middle, middles[swapped[0]]
        return None

    def fault_rows(self):
        """The rows of such a fault; None if there is none."""
        found = self.fault()
        if found is None:
            return None
        return [self.rows[number] for number in found]
