"""Kinds of cells: what looks answer and change, what drifts, what puts set."""

from lookspoil.checks import are_rising_standings, is_below, rising, is_tuple
from lookspoil.errors import BadKind

ANSWERS = 10
MOST_STANDINGS = 8
MOST_OUTCOMES = 4
MOST_PUTS = 4


class Kind:
    """A kind of cell. It never changes: all that it keeps are tuples of integers."""

    def __init__(self, looks, drifts, puts):
        if not are_looks(looks):
            raise BadKind("looks")
        size = len(looks)
        if not are_drifts(size, drifts):
            raise BadKind("drifts")
        if not are_puts(size, puts):
            raise BadKind("puts")
        self.looks = looks
        self.drifts = drifts
        self.puts = puts
        self.size = size

    def __eq__(self, other):
        return (isinstance(other, Kind) and self.looks == other.looks
                and self.drifts == other.drifts and self.puts == other.puts)


def answers_of(kind):
    """The ascending list of the answers that a look can give in some standing."""
    return sorted({answer for outcomes in kind.looks for answer, _ in outcomes})


def are_looks(thing):
    """Whether thing is the looks of a kind, which also tell how many standings it has."""
    if not is_tuple(1, MOST_STANDINGS, thing):
        return False
    return all([are_outcomes(len(thing), outcomes) for outcomes in thing])


def are_outcomes(size, thing):
    """Whether thing is what a look in one standing may answer and lead to."""
    if not is_tuple(1, MOST_OUTCOMES, thing):
        return False
    return all([is_outcome(size, outcome) for outcome in thing]) and rising(thing)


def is_outcome(size, thing):
    """Whether thing is a pair (answer, standing)."""
    return is_tuple(2, 2, thing) and is_below(ANSWERS, thing[0]) and is_below(size, thing[1])


def are_drifts(size, thing):
    """Whether thing is the drifts of a kind with size standings."""
    return is_tuple(size, size, thing) and all([are_rising_standings(size, goals) for goals in thing])


def are_puts(size, thing):
    """Whether thing is the puts of a kind with size standings."""
    return is_tuple(0, MOST_PUTS, thing) and all([is_put(size, put) for put in thing])


def is_put(size, thing):
    """Whether thing is a pair (standing, torn)."""
    return is_tuple(2, 2, thing) and is_below(size, thing[0]) and are_rising_standings(size, thing[1])
