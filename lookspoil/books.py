"""Books: which names' layouts are apart, and the papers for it."""

from lookspoil.checks import is_below, is_tuple
from lookspoil.errors import NoName
from lookspoil.likenesses import is_likeness, likeness
from lookspoil.pairs import alike_pairs, heights, is_heights


def apart_cells(book, one, two):
    """The ascending list of the cells in which the layouts of two names are apart."""
    check_name(book, one)
    check_name(book, two)
    return cells_apart(book, all_alike(book), one, two)


def kept(book):
    """Whether each two names' layouts are apart."""
    return len(names_alike(book)) == 0


def keeping(book):
    """A keeping of the book, or None if it is not kept."""
    alike = all_alike(book)
    found = {}
    for one, two in name_pairs(book):
        cells = cells_apart(book, alike, one, two)
        if len(cells) == 0:
            return None
        kind, u, v = standings_in(book, cells[0], one, two)
        found[(one, two)] = (cells[0], heights(kind, u, v))
    return found


def is_keeping(book, thing):
    """Whether thing is a keeping of the book."""
    pairs = name_pairs(book)
    if not isinstance(thing, dict) or len(thing) != len(pairs):
        return False
    return all([pair in thing and keeps_apart(book, pair, thing[pair]) for pair in pairs])


def denial(book):
    """A denial of the book, or None if it is kept."""
    names = names_alike(book)
    if len(names) == 0:
        return None
    one, two = names[0]
    standings = [standings_in(book, cell, one, two) for cell in range(len(book.store.kinds))]
    return one, two, tuple([likeness(kind, u, v) for kind, u, v in standings])


def is_denial(book, thing):
    """Whether thing is a denial of the book."""
    if not is_tuple(3, 3, thing):
        return False
    one, two, likenesses = thing
    if not (is_name(book, one) and is_name(book, two) and one < two):
        return False
    cells = len(book.store.kinds)
    if not is_tuple(cells, cells, likenesses):
        return False
    standings = [standings_in(book, cell, one, two) for cell in range(cells)]
    return all([is_likeness(kind, u, v, told) for (kind, u, v), told in zip(standings, likenesses)])


def is_name(book, thing):
    """Whether thing is a name of the book."""
    return is_below(len(book.layouts), thing)


def check_name(book, name):
    """Raise NoName for what is no name of the book."""
    if not is_name(book, name):
        raise NoName()


def name_pairs(book):
    """The ascending list of the pairs (i, j) of names, i < j."""
    many = len(book.layouts)
    return [(one, two) for one in range(many) for two in range(one + 1, many)]


def standings_in(book, cell, one, two):
    """The kind of the cell, and the standings that two names have in it."""
    return book.store.kinds[cell], book.layouts[one][cell], book.layouts[two][cell]


def all_alike(book):
    """For each cell the alike pairs of its kind."""
    return [alike_pairs(kind) for kind in book.store.kinds]


def cells_apart(book, alike, one, two):
    """What apart_cells tells of two names, with the alike pairs of each cell."""
    return [
        cell for cell, (u, v) in enumerate(zip(book.layouts[one], book.layouts[two]))
        if u != v and (min(u, v), max(u, v)) not in alike[cell]]


def names_alike(book):
    """The ascending list of the pairs of names, i < j, whose layouts are apart in no cell."""
    alike = all_alike(book)
    return [(one, two) for one, two in name_pairs(book) if len(cells_apart(book, alike, one, two)) == 0]


def keeps_apart(book, names, thing):
    """Whether thing is a pair (cell, heights) for two names."""
    if not (is_tuple(2, 2, thing) and is_below(len(book.store.kinds), thing[0])):
        return False
    kind, u, v = standings_in(book, thing[0], names[0], names[1])
    return is_heights(kind, u, v, thing[1])
