"""Kinds that stand in for others, and the books that show which ones do."""

from lookspoil.checks import is_below, is_tuple
from lookspoil.errors import NoCell, NoStandIn, TooLarge
from lookspoil.fits import least_fit
from lookspoil.graphs import apart_graph, points_of
from lookspoil.kinds import Kind
from lookspoil.moves import moved
from lookspoil.stores import Book, Store, book_of_any_size, is_cell

MOST_VEILED = 4


def stand_in(kind, other):
    """The least stand-in of kind for the other one, or None."""
    found = least_fit(apart_graph(other), apart_graph(kind))
    return None if found is None else tuple(found)


def is_stand_in(kind, other, thing):
    """Whether thing is a stand-in of kind for the other one."""
    if not (is_tuple(other.size, other.size, thing) and all([is_below(kind.size, standing) for standing in thing])):
        return False
    graph = apart_graph(kind)
    return all([
        graph[thing[u]] >> thing[v] & 1 == 1
        for u, joined in enumerate(apart_graph(other)) for v in points_of(joined)])


def replaced(book, cell, kind, thing):
    """The book with this kind in the place of that of the cell, and what the stand-in thing has for its standings."""
    kinds = book.store.kinds
    if not is_cell(book.store, cell):
        raise NoCell()
    if not is_stand_in(kind, kinds[cell], thing):
        raise NoStandIn()
    layouts = [moved(layout, cell, thing[layout[cell]]) for layout in book.layouts]
    return book_of_any_size(Store(kinds[:cell] + (kind,) + kinds[cell + 1:]), tuple(layouts))


def veil(kind):
    """The kind that answers alike exactly where kind is apart, and leaves each cell as it is.

    Each two standings that are apart in kind have an answer of their own, and
    each standing one that no other one has.
    """
    if kind.size > MOST_VEILED:
        raise TooLarge(MOST_VEILED)
    graph = apart_graph(kind)
    pairs = [(u, v) for u, joined in enumerate(graph) for v in points_of(joined) if u < v]
    shared = [
        [(number, standing) for number, pair in enumerate(pairs) if standing in pair] for standing in range(kind.size)]
    looks = [
        tuple(answers + [(len(pairs) + standing, standing)]) for standing, answers in enumerate(shared)]
    return Kind(tuple(looks), ((),) * kind.size, ())


def twin_book(kind):
    """The book of a cell of kind and one of its veil, with both in each standing."""
    return Book(Store((kind, veil(kind))), tuple([(standing, standing) for standing in range(kind.size)]))
