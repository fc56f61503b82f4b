"""Spare cells: what a book needs to be kept, at the least price."""

from lookspoil.books import names_alike
from lookspoil.checks import is_between, is_tuple
from lookspoil.errors import NoMenu, TooMany
from lookspoil.fits import some_fit
from lookspoil.graphs import apart_graph, graph_of_pairs, joined_in_some
from lookspoil.kinds import Kind
from lookspoil.stores import MOST_CELLS, Store, all_choices, book_of_any_size

MOST_CHOICES = 4
MOST_PRICE = 1000
MOST_SPARE = 2


def spare_cells(book, menu):
    """The least price, the numbers of what is bought, and a book that is kept by such spare cells; or None."""
    if not is_menu(menu):
        raise NoMenu()
    if len(book.store.kinds) + MOST_SPARE > MOST_CELLS:
        raise TooMany(MOST_CELLS)
    # A spare cell must tell apart just those names that are alike in all elder cells.
    alike = graph_of_pairs(len(book.layouts), names_alike(book))
    for price, numbers in all_orders(menu):
        kinds = [menu[number][0] for number in numbers]
        spare = spare_layouts(alike, kinds)
        if spare is not None:
            layouts = [layout + more for layout, more in zip(book.layouts, spare)]
            return price, numbers, book_of_any_size(Store(book.store.kinds + tuple(kinds)), tuple(layouts))
    return None


def is_menu(thing):
    """Whether thing is a menu."""
    return is_tuple(1, MOST_CHOICES, thing) and all([is_offer(offer) for offer in thing])


def is_offer(thing):
    """Whether thing is a pair (kind, price)."""
    return is_tuple(2, 2, thing) and isinstance(thing[0], Kind) and is_between(1, MOST_PRICE, thing[1])


def all_orders(menu):
    """All that can be bought, as pairs (price, numbers), ascending."""
    every = list(range(len(menu)))
    pairs = [(one, two) for one in every for two in every if one <= two]
    orders = [()] + [(number,) for number in every] + pairs
    return sorted([(sum([menu[number][1] for number in numbers]), numbers) for numbers in orders])


def spare_layouts(alike, kinds):
    """For each name the standings of spare cells of these kinds, such that joined names are apart in one; or None."""
    graphs = [apart_graph(kind) for kind in kinds]
    standings = all_choices([list(range(kind.size)) for kind in kinds])
    fit = some_fit(alike, joined_in_some(graphs))
    return None if fit is None else [standings[point] for point in fit]
