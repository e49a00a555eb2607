"""The errors of the package.

No class is under another one but its base class, so that a handler for one kind of failure
never catches another kind. This is why each class sets its attributes itself.
"""


class NotRight(ValueError):
    """An argument is not what it has to be."""


class InvalidText(NotRight):
    """This is no text of a rule."""

    def __init__(self, given):
        self.given = given


class InvalidRow(NotRight):
    """This is no row of the signs at hand, or it is too long."""

    def __init__(self, given):
        self.given = given


class InvalidKind(NotRight):
    """This is no kind of watchers that is asked for here."""

    def __init__(self, given):
        self.given = given


class InvalidNumber(NotRight):
    """This is no integer in the bounds."""

    def __init__(self, given):
        self.given = given


class InvalidMood(NotRight):
    """This is no mood of the rule."""

    def __init__(self, given):
        self.given = given


class InvalidSign(NotRight):
    """This is no sign of the rule."""

    def __init__(self, given):
        self.given = given


class InvalidPaper(NotRight):
    """This is no paper of the form that its kind asks for."""

    def __init__(self, given):
        self.given = given


class InvalidName(NotRight):
    """This is no name for a rule of a desk."""

    def __init__(self, given):
        self.given = given


class InvalidIndex(NotRight):
    """This is no index of a claim."""

    def __init__(self, given):
        self.given = given


class InvalidClaim(NotRight):
    """This is no claim of a desk."""

    def __init__(self, given):
        self.given = given


class NotARule(NotRight):
    """This is no rule."""

    def __init__(self, given):
        self.given = given


class InvalidWishes(NotRight):
    """The element with this index is no wish; None if there are no elements."""

    def __init__(self, index):
        self.index = index


class InvalidChanges(NotRight):
    """The element with this index is no change; None if there are no elements."""

    def __init__(self, index):
        self.index = index


class NotKnown(LookupError):
    """A desk does not have what is asked for, or cannot part with it."""


class UnknownName(NotKnown):
    """The desk has no rule under this name."""

    def __init__(self, given):
        self.given = given


class InUse(NotKnown):
    """The claim with this index names the rule."""

    def __init__(self, index):
        self.index = index


class NothingToUndo(NotKnown):
    """No change of the desk is left to take back."""


class NotPossible(ArithmeticError):
    """The arguments are right, but there is no such result."""


class OtherSigns(NotPossible):
    """The two rules do not fit one another."""


class TooMany(NotPossible):
    """More things come than this limit."""

    def __init__(self, limit):
        self.limit = limit


class Kept(NotPossible):
    """The rule is kept with some number."""


class Broken(NotPossible):
    """The claim with this index does not hold; what is shown tells why."""

    def __init__(self, index, shown):
        self.index = index
        self.shown = shown
