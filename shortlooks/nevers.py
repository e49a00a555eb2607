"""Rows that a watcher cannot tell apart, although just one of them is good: for one number, and for all numbers."""

from shortlooks.errors import InvalidNumber, InvalidPaper, Kept
from shortlooks.forms import Form
from shortlooks.limits import MOST_LOOK, in_bounds
from shortlooks.looks import check_kind, check_number
from shortlooks.movings import Movings
from shortlooks.pairs import ENDLESS, Forks, pairs_for_last, pairs_for_windows
from shortlooks.rules import check_rule
from shortlooks.texts import LETTERS, made_of
from shortlooks.triples import sets_clash

# For each kind how many rows a paper may have, and the places of those that are repeated and so are not empty.
PAPERS = {
    "last": ((4,), (2,)),
    "ends": ((6,), (1, 4)),
    "windows": ((5,), (2,)),
    "sets": ((4, 5), (1,)),
}
SAME_LOOK_KINDS = ("last", "ends", "sets")


def last_paper(form):
    """A paper for last; None if there is none."""
    pairs = pairs_for_last(form)
    pair = pairs.taller(ENDLESS - 1)
    if pair is None:
        return None
    one, other, x = pairs.ring(pair[0], pair[1])
    return form.row_to(0, one), form.row_to(0, other), x, form.row_parting(one, other)


def ends_paper(form):
    """A paper for ends; None if there is none."""
    forks = Forks(form)
    fork = forks.endless_fork()
    if fork is None:
        return None
    start, left, right = fork
    one, other, x = forks.pairs.ring(left, right)
    return (form.row_to(0, start), form.row_back_to(start), form.row_to(start, one), form.row_to(start, other), x,
            form.row_parting(one, other))


def windows_paper(form):
    """A paper for windows; None if there is none."""
    pairs = pairs_for_windows(form)
    pair = pairs.taller(ENDLESS - 1)
    if pair is None:
        return None
    one, other, x = pairs.ring(pair[0], pair[1])
    z = form.row_parting(one, other)
    if not form.flags[form.led(one, z)]:
        one, other = other, one
    return form.row_to(0, one), form.row_to(0, other), x, z, form.row_to_good(other)


def sets_paper(form):
    """A paper for sets; None if there is none; TooMany if there are too many movings."""
    rows = Movings(form).fault_rows()
    if rows is None:
        return None
    x, *inner = rows
    left, right = set_rows(x, inner)
    moods = [mood for mood in range(len(form.table)) if form.led(mood, left) != form.led(mood, right)]
    v = form.row_parting(form.led(moods[0], left), form.led(moods[0], right))
    return (form.row_to(0, moods[0]), x, *inner, v)


def never(rule, kind):
    """A paper that shows that no watcher of this kind keeps the rule, for the moods of its least form."""
    check_rule(rule)
    check_kind(kind)
    form = Form(rule)
    if kind == "last":
        paper = last_paper(form)
    elif kind == "ends":
        paper = ends_paper(form)
    elif kind == "windows":
        paper = windows_paper(form)
    else:
        paper = sets_paper(form)
    if paper is None:
        raise Kept()
    return paper


def set_rows(x, inner):
    """The two rows x s x and x s x s x, or x s x t x and x t x s x, for the inner rows s, or s and t."""
    if len(inner) == 1:
        return x + inner[0] + x, x + inner[0] + x + inner[0] + x
    return x + inner[0] + x + inner[1] + x, x + inner[1] + x + inner[0] + x


def is_paper(kind, paper):
    """Whether a value has the form of a paper for never."""
    sizes, repeated = PAPERS[kind]
    if not (isinstance(paper, tuple) and len(paper) in sizes):
        return False
    if not all([isinstance(row, str) and made_of(row, LETTERS) for row in paper]):
        return False
    return all([len(paper[place]) > 0 for place in repeated])


def pumped(kind, paper, number):
    """The two rows that a paper for never gives for this number of times."""
    check_kind(kind)
    if not is_paper(kind, paper):
        raise InvalidPaper(paper)
    if not in_bounds(number, 1, MOST_LOOK):
        raise InvalidNumber(number)
    if kind == "ends":
        a, y, u, v, x, z = paper
        return a + y * number + u + x * number + z, a + y * number + v + x * number + z
    if kind == "sets":
        u, x, *inner, v = paper
        left, right = set_rows(x * number, inner)
        return u + left + v, u + right + v
    u, v, x, z = paper[:4]
    return u + x * number + z, v + x * number + z


def parted_rows(form, one, other, middle):
    """Two rows, the first good and the second not, by rows to two moods that the middle one leads to unlike ones."""
    left, right = form.led(form.led(0, one), middle), form.led(form.led(0, other), middle)
    z = form.row_parting(left, right)
    if form.flags[form.led(left, z)]:
        return one + middle + z, other + middle + z
    return other + middle + z, one + middle + z


def last_clash(form, number):
    """Two rows with the same look for last, the first one good and the second not; None if the rule is kept."""
    pairs = pairs_for_last(form)
    pair = pairs.taller(number)
    if pair is None:
        return None
    one, other = pair
    return parted_rows(form, form.row_to(0, one), form.row_to(0, other), pairs.row_apart(one, other, number))


def ends_clash(form, number):
    """Two rows with the same look for ends, the first one good and the second not; None if the rule is kept."""
    forks = Forks(form)
    fork = forks.fork_for(number)
    if fork is None:
        return None
    start, one, other = fork
    a = forks.rows_to(number)[start]
    middle = forks.pairs.row_apart(one, other, number)
    return parted_rows(form, a + form.row_to(start, one), a + form.row_to(start, other), middle)


def same_look(rule, kind, number):
    """Two rows with the same look, the first one good and the second not; None if the rule is kept."""
    check_rule(rule)
    check_kind(kind, SAME_LOOK_KINDS)
    check_number(kind, number)
    form = Form(rule)
    if kind == "last":
        return last_clash(form, number)
    if kind == "ends":
        return ends_clash(form, number)
    return sets_clash(form, number)
