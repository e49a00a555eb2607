"""The pieces of good rows, and the least rule that forbids pieces and lets all good rows."""

from shortlooks.comparing import first_shown, formed
from shortlooks.errors import InvalidNumber
from shortlooks.forms import Form
from shortlooks.limits import MOST_MOODS, MOST_PIECE, in_bounds
from shortlooks.rules import check_rule


def check_piece(rule, number):
    """Raises NotARule if the one is no rule, InvalidNumber if the other is no length of pieces."""
    check_rule(rule)
    if not in_bounds(number, 1, MOST_PIECE):
        raise InvalidNumber(number)


def marked_rows(signs, number):
    """All strings that could be pieces: of so many characters, or rows between both marks that are shorter."""
    found = []
    rows = [""]
    for length in range(number + 1):
        for row in rows:
            whole = ">" + row + "<"
            texts = [text for text in (row, ">" + row, row + "<", whole) if len(text) == number]
            found.extend([whole] if len(whole) < number else texts)
        rows = [row + sign for row in rows for sign in signs]
    return found


def stands_in_good(form, text):
    """Whether a string with or without marks stands in some good row between the marks."""
    moods = [0] if text.startswith(">") else list(range(len(form.table)))
    goals = [form.led(mood, text.strip("<>")) for mood in moods]
    if text.endswith("<"):
        return any([form.flags[goal] for goal in goals])
    return any([form.is_live(goal) for goal in goals])


def pieces(rule, number):
    """The pieces of good rows, ascending."""
    check_piece(rule, number)
    form = Form(rule)
    return tuple(sorted([text for text in marked_rows(form.letters, number) if stands_in_good(form, text)]))


def hull(rule, number):
    """The least form of the rule that lets just the rows all of whose pieces are pieces of good rows."""
    known = {piece: True for piece in pieces(rule, number)}

    def step(last, sign):
        """The last characters behind the mark `>`, one fewer than those of a piece; None once a piece is wrong."""
        if last is None:
            return None
        text = last + sign
        if len(text) < number:
            return text
        return text[1:] if text in known else None

    def is_good(last):
        # If the row is so short that it is its only piece, this is that piece.
        return last is not None and last + "<" in known

    # With pieces of one character the mark need not be asked for: it is a piece if the other one is.
    return formed(rule.signs, ">" if number > 1 else "", step, is_good, MOST_MOODS)


def extra(rule, number):
    """The first row that the hull lets and that is not good; None if there is none."""
    return first_shown(hull(rule, number), rule, lambda left, right: left and not right)
