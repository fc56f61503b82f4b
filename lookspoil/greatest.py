"""Greatest books of stores, and covers, which show that they are."""

from lookspoil.graphs import all_points, apart_graph, greatest_clique, joined_in_some, lots_of
from lookspoil.pairs import apart
from lookspoil.stores import all_layouts, book_of_any_size, check_layout, check_size, is_layout
from lookspoil.sures import classes, sure

MOST_LAYOUTS = 64


def most_names(store):
    """The greatest number of layouts of which each two are apart."""
    check_size(store, MOST_LAYOUTS)
    return len(greatest_clique(layout_graph(store)))


def greatest_book(store):
    """A kept book with as many names as possible."""
    check_size(store, MOST_LAYOUTS)
    layouts = all_layouts(store)
    numbers = sorted(greatest_clique(layout_graph(store)))
    return book_of_any_size(store, tuple([layouts[number] for number in numbers]))


def kinds_sure(store):
    """Whether all kinds are sure."""
    return all([sure(kind) for kind in store.kinds])


def names_by_classes(store):
    """The product of the numbers of the classes of the kinds, all of which must be sure to have them."""
    names = 1
    for kind in store.kinds:
        names = names * len(classes(kind))
    return names


def alike_in(store, one, two):
    """Whether two layouts are not apart."""
    check_layout(store, one)
    check_layout(store, two)
    return not any([apart(kind, u, v) for kind, u, v in zip(store.kinds, one, two)])


def cover(store):
    """A cover of the store. If all kinds are sure, the lots hold all that is alike, so that there are the fewest."""
    check_size(store, MOST_LAYOUTS)
    layouts = all_layouts(store)
    graph = layout_graph(store)
    return [[layouts[number] for number in lot] for lot in lots_of(graph, all_points(graph))]


def is_cover(store, thing):
    """Whether thing is a cover of the store."""
    check_size(store, MOST_LAYOUTS)
    if not (is_list_or_tuple(thing) and all([are_layouts_of(store, lot) for lot in thing])):
        return False
    layouts = all_layouts(store)
    if sorted([layout for lot in thing for layout in lot]) != layouts:
        return False
    graph = layout_graph(store)
    numbers = {layout: number for number, layout in enumerate(layouts)}
    return all([is_lot(graph, [numbers[layout] for layout in lot]) for lot in thing])


def layout_graph(store):
    """The graph of all layouts, ascending, joined where they are apart."""
    return joined_in_some([apart_graph(kind) for kind in store.kinds])


def is_list_or_tuple(thing):
    """Whether thing is a list or tuple."""
    return isinstance(thing, (list, tuple))


def are_layouts_of(store, thing):
    """Whether thing is a list or tuple of layouts of the store."""
    return is_list_or_tuple(thing) and all([is_layout(store, layout) for layout in thing])


def is_lot(graph, points):
    """Whether no two of the points are joined."""
    return not any([graph[one] >> two & 1 for one in points for two in points])
