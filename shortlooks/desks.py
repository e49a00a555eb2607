"""Desks: rules under names, with claims about them that hold after each change."""

from shortlooks.comparing import first_shown
from shortlooks.errors import Broken, InUse, InvalidClaim, InvalidIndex, InvalidName, NothingToUndo, UnknownName
from shortlooks.limits import in_bounds
from shortlooks.looks import KINDS
from shortlooks.rules import check_rule
from shortlooks.texts import is_word
from shortlooks.wishes import evidence, holds, is_wish

PAIR_WORDS = ("alike", "within")


def is_claim(value):
    """Whether a value is a claim, if all its names are names of rules."""
    if not (isinstance(value, tuple) and len(value) > 1 and isinstance(value[0], str)):
        return False
    if value[0] in PAIR_WORDS:
        return len(value) == 3
    return is_wish(wish_of(value), KINDS)


def wish_of(claim):
    """What a claim about one rule says of it."""
    return (claim[0], *claim[2:])


def names_of(claim):
    """The names in a claim."""
    return claim[1:] if claim[0] in PAIR_WORDS else claim[1:2]


def first_against(word, one, other):
    """The first row that shows that two rules that fit are not alike, or the one not within the other; or None."""
    if word == "alike":
        return first_shown(one, other, lambda left, right: left != right)
    return first_shown(one, other, lambda left, right: left and not right)


def is_so(held, claim):
    """Whether a claim holds for these rules."""
    rules = [held[name] for name in names_of(claim)]
    if len(rules) == 1:
        return holds(rules[0], wish_of(claim))
    one, other = rules
    return one.signs == other.signs and first_against(claim[0], one, other) is None


def shown_against(held, claim):
    """What is shown with a claim that does not hold for these rules."""
    rules = [held[name] for name in names_of(claim)]
    if len(rules) == 1:
        return evidence(rules[0], wish_of(claim))
    one, other = rules
    return first_against(claim[0], one, other) if one.signs == other.signs else None


class State:
    """What a desk has at one time, and what it had ahead of its last change. It never changes."""

    def __init__(self, held, said, earlier):
        self.held = held
        self.said = said
        self.earlier = earlier
        self.depth = 0 if earlier is None else earlier.depth + 1


class Begun:
    """The state of a desk when a trial began, and behind it what began further out."""

    def __init__(self, state, outer):
        self.state = state
        self.outer = outer


class Trial:
    """For a `with` statement: the desk is as it was if the rows of the statement end with an exception."""

    def __init__(self, desk):
        self.desk = desk
        self.begun = None

    def __enter__(self):
        # It may be used within itself, so what has begun is kept for each use.
        self.begun = Begun(self.desk.state, self.begun)
        return self.desk

    def __exit__(self, kind, value, trace):
        if kind is not None:
            self.desk.state = self.begun.state
        self.begun = self.begun.outer


class Desk:
    """Rules under names, and claims about them."""

    def __init__(self):
        self.state = State({}, (), None)

    @property
    def names(self):
        """The names, ascending."""
        return tuple(sorted(list(self.state.held)))

    @property
    def claims(self):
        """The claims, in the order in which they were made."""
        return self.state.said

    @property
    def changes(self):
        """How many changes can be taken back."""
        return self.state.depth

    def put(self, name, rule):
        """Puts a rule under a name, also in the place of another one."""
        if not (isinstance(name, str) and is_word(name)):
            raise InvalidName(name)
        check_rule(rule)
        held = {known: self.state.held[known] for known in self.state.held}
        held[name] = rule
        # Claims that do not name the rule hold as they did.
        for index, claim in enumerate(self.state.said):
            if name in names_of(claim) and not is_so(held, claim):
                raise Broken(index, shown_against(held, claim))
        self.state = State(held, self.state.said, self.state)

    def rule(self, name):
        """The rule under a name."""
        self.check_name(name)
        return self.state.held[name]

    def drop(self, name):
        """Takes a rule away that no claim names."""
        self.check_name(name)
        for index, claim in enumerate(self.state.said):
            if name in names_of(claim):
                raise InUse(index)
        held = {known: self.state.held[known] for known in self.state.held if known != name}
        self.state = State(held, self.state.said, self.state)

    def claim(self, claim):
        """Makes one claim more, behind the others."""
        if not is_claim(claim):
            raise InvalidClaim(claim)
        for name in names_of(claim):
            self.check_name(name)
        held, said = self.state.held, self.state.said
        if not is_so(held, claim):
            raise Broken(len(said), shown_against(held, claim))
        self.state = State(held, (*said, claim), self.state)

    def lift(self, index):
        """Takes a claim away."""
        said = self.state.said
        if not in_bounds(index, 0, len(said) - 1):
            raise InvalidIndex(index)
        self.state = State(self.state.held, said[:index] + said[index + 1:], self.state)

    def undo(self):
        """Takes back the last change that has not been taken back."""
        if self.state.earlier is None:
            raise NothingToUndo()
        self.state = self.state.earlier

    def trial(self):
        """For a `with` statement that leaves the desk as it was if its rows end with an exception."""
        return Trial(self)

    def tried(self, action):
        """Calls a function with the desk within such a statement, and returns what it returns."""
        with self.trial() as desk:
            return action(desk)

    def check_name(self, name):
        """Raises UnknownName if a value is no name of a rule of the desk."""
        if not (isinstance(name, str) and name in self.state.held):
            raise UnknownName(name)
