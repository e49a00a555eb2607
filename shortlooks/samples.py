"""Four small rules to try things with."""

from shortlooks.rules import Rule

ENDS = "signs ab\nmoods out in\ngood in\nout a in\nout b out\nin a in\nin b out"
EVEN = "signs ab\nmoods maa mab\ngood maa\nmaa a mab\nmaa b maa\nmab a maa\nmab b mab"
FREE = "signs ab\nmoods maa mab mac\ngood maa mab\nmaa a mab\nmaa b maa\nmab a mac\nmab b maa\nmac a mac\nmac b mac"
HAS = "signs ab\nmoods maa mab\ngood mab\nmaa a mab\nmaa b maa\nmab a mab\nmab b mab"


def ends_rule():
    """Good are the rows that end with a."""
    return Rule(ENDS)


def even_rule():
    """Good are the rows with an even number of a, none too."""
    return Rule(EVEN)


def free_rule():
    """Good are the rows in which aa stands nowhere."""
    return Rule(FREE)


def has_rule():
    """Good are the rows in which a stands."""
    return Rule(HAS)
