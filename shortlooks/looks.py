"""The kinds of watchers, and what they see of a row."""

from shortlooks.errors import InvalidKind, InvalidNumber, InvalidRow
from shortlooks.limits import MOST_LOOK, in_bounds
from shortlooks.texts import LETTERS, is_row_of

KINDS = ("last", "ends", "windows", "sets")


def is_kind(value, kinds):
    """Whether a value is one of these kinds of watchers."""
    return isinstance(value, str) and value in kinds


def is_number(kind, value, most):
    """Whether a value is a number of signs for a watcher of this kind, up to a bound."""
    return in_bounds(value, 0 if kind == "last" else 1, most)


def check_kind(kind, kinds=KINDS):
    """Raises InvalidKind if a value is none of these kinds of watchers."""
    if not is_kind(kind, kinds):
        raise InvalidKind(kind)


def check_number(kind, number):
    """Raises InvalidNumber if no watcher of this kind has a look of so many signs."""
    if not is_number(kind, number, MOST_LOOK):
        raise InvalidNumber(number)


def last_look(number, row):
    """The last signs of a row, and whether these are fewer than the number."""
    if len(row) < number:
        return row, True
    return row[len(row) - number:], False


def ends_look(number, row):
    """The first and the last signs of a row, or a whole one that is too short, and whether it is."""
    if len(row) < 2 * number:
        return row, True
    return (row[:number], row[len(row) - number:]), False


def pieces_look(number, row):
    """The pieces of a row, ascending."""
    marked = ">" + row + "<"
    if len(marked) < number:
        return (marked,)
    return tuple(sorted({marked[at:at + number] for at in range(len(marked) - number + 1)}))


def look(kind, number, row):
    """What a watcher of this kind with this number of signs sees of a row."""
    check_kind(kind)
    check_number(kind, number)
    if not is_row_of(row, LETTERS):
        raise InvalidRow(row)
    if kind == "last":
        return last_look(number, row)
    if kind == "ends":
        return ends_look(number, row)
    return pieces_look(number, row)
