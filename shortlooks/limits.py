"""The bounds that the rest of the package keeps to."""

MOST_SIGNS = 3
MOST_MOODS = 300
MOST_ROW = 1000
MOST_LOOK = 1000
MOST_PIECE = 5
MOST_MOVINGS = 300
MOST_TRIPLES = 3000
MOST_PAIRS = 3000
MOST_LOTS = 3000
MOST_CHANGES = 6


def in_bounds(value, low, high):
    """Whether a value is an integer from the one bound to the other, both counted in."""
    return isinstance(value, int) and not isinstance(value, bool) and low <= value <= high
