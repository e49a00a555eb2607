"""What a watcher of the kind sets knows on the way: the pieces so far, the last signs, and the mood of the rule."""

from shortlooks.comparing import explored
from shortlooks.errors import TooMany
from shortlooks.limits import MOST_TRIPLES
from shortlooks.movings import first_rows


def shortest_rows(signs, number):
    """The rows with as many signs as the shortest that are asked for; TooMany if there are too many of them."""
    rows = [""]
    for step in range(number - 2):
        rows = [row + sign for row in rows for sign in signs]
        if len(rows) > MOST_TRIPLES:
            raise TooMany(MOST_TRIPLES)
    return rows


def triples_and_rows(form, number):
    """The triples that come, each one with a row; TooMany if there are too many.

    Of a row behind the mark `>` a triple has the pieces, the last characters, one fewer than those of a piece, and the
    mood. The set of the pieces is a number with a bit for each piece. For pieces of one character the mark itself is
    left out of it: it is in all sets.
    """
    bits = {}

    def step(triple, sign):
        pieces, last, mood = triple
        piece = last + sign
        bit = bits.setdefault(piece, len(bits))
        return pieces | 1 << bit, piece[1:], form.step(mood, sign)

    rows = shortest_rows(form.letters, number)
    starts = [(0, ">" + row if number > 1 else "", form.led(0, row)) for row in rows]
    triples, goals = explored(form.letters, starts, step, MOST_TRIPLES)
    return list(zip(triples, first_rows(form.letters, goals, rows)))


def sets_clash(form, number):
    """Two rows with the same look for sets, the first one good and the second not; None if the rule is kept.

    Shorter rows than those of the triples are the only piece of their look, so no other row has it.
    """
    seen = {}
    for (pieces, last, mood), row in triples_and_rows(form, number):
        rows = seen.setdefault((pieces, last), {})
        rows.setdefault(form.flags[mood], row)
        if len(rows) == 2:
            return rows[True], rows[False]
    return None
