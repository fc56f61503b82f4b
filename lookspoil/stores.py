"""Stores, which are rows of cells, and books, which lay them down for names."""

from lookspoil.checks import is_below, is_tuple
from lookspoil.errors import BadBook, BadStore, NoLayout, TooLarge
from lookspoil.kinds import Kind

MOST_CELLS = 5
MOST_NAMES = 12


class Store:
    """A row of cells, told by the kind of each."""

    def __init__(self, kinds):
        if not are_kinds(kinds):
            raise BadStore()
        self.kinds = kinds

    def __eq__(self, other):
        return isinstance(other, Store) and self.kinds == other.kinds


class Book:
    """A layout of the cells of a store for each name."""

    def __init__(self, store, layouts):
        if not are_layouts(store, layouts):
            raise BadBook()
        self.store = store
        self.layouts = layouts

    def __eq__(self, other):
        return isinstance(other, Book) and self.store == other.store and self.layouts == other.layouts


def book_of_any_size(store, layouts):
    """The book with these layouts, which are right but for their number.

    Only what is passed to the class is bounded, so the bound is not asked for here.
    """
    made = Book(store, layouts[:1])
    made.layouts = layouts
    return made


def all_choices(lists):
    """The tuples of one thing of each list, in the order of the lists."""
    made = [()]
    for things in lists:
        made = [ahead + (thing,) for ahead in made for thing in things]
    return made


def all_layouts(store):
    """The ascending list of the layouts of the store."""
    return all_choices([list(range(kind.size)) for kind in store.kinds])


def are_kinds(thing):
    """Whether thing is the kinds of a store."""
    return is_tuple(1, MOST_CELLS, thing) and all([isinstance(kind, Kind) for kind in thing])


def are_layouts(store, thing):
    """Whether thing is the layouts of a book of the store."""
    return is_tuple(1, MOST_NAMES, thing) and all([is_layout(store, layout) for layout in thing])


def check_size(store, most):
    """Raise TooLarge if the numbers of standings of the kinds, multiplied, are more than most."""
    layouts = 1
    for kind in store.kinds:
        layouts = layouts * kind.size
    if layouts > most:
        raise TooLarge(most)


def check_layout(store, layout):
    """Raise NoLayout for what is no layout of the store."""
    if not is_layout(store, layout):
        raise NoLayout()


def is_cell(store, thing):
    """Whether thing is a cell of the store."""
    return is_below(len(store.kinds), thing)


def is_layout(store, thing):
    """Whether thing is a layout of the store."""
    cells = len(store.kinds)
    return is_tuple(cells, cells, thing) and all([is_below(kind.size, at) for kind, at in zip(store.kinds, thing)])
