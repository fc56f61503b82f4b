"""Cells that dry: each look that finds something leaves less."""

from lookspoil.checks import is_between, is_tuple
from lookspoil.errors import NoLengths, NoNumber
from lookspoil.kinds import Kind
from lookspoil.programs import Program
from lookspoil.stores import MOST_CELLS, Book, Store

MOST_LENGTH = 7


def drying(most):
    """The kind in which a look answers 1 and leads to one standing less, until it answers 0 for ever."""
    if not is_length(most):
        raise NoNumber()
    looks = [((0, 0),)] + [((1, standing),) for standing in range(most)]
    return Kind(tuple(looks), ((),) * (most + 1), ())


def dry_store(lengths):
    """The store with a cell that dries for each of the lengths."""
    check_lengths(lengths)
    return Store(tuple([drying(length) for length in lengths]))


def dry_book(lengths):
    """The book with all cells full for name 0, and all empty for name 1."""
    return Book(dry_store(lengths), (lengths, (0,) * len(lengths)))


def dry_program(lengths):
    """The program that looks at the cells in order, tells 0 at the first answer 1, and 1 behind the last."""
    store = dry_store(lengths)
    cells = len(lengths)
    looks = [("look", cell, ((0, cell + 1), (1, cells + 1))) for cell in range(cells)]
    return Program(store, tuple(looks + [("tell", 1), ("tell", 0)]))


def check_lengths(lengths):
    """Raise NoLengths for what is no tuple of lengths for the cells of a store."""
    if not (is_tuple(1, MOST_CELLS, lengths) and all([is_length(length) for length in lengths])):
        raise NoLengths()


def is_length(thing):
    """Whether thing is a number of looks in which a cell can dry."""
    return is_between(1, MOST_LENGTH, thing)
