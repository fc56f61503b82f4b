"""Programs judged for all worlds: tables that they keep a book, and refutations."""

from lookspoil.books import is_name
from lookspoil.checks import is_below, is_tuple
from lookspoil.moves import moves_from, trace_end
from lookspoil.programs import check_same_store, told_at
from lookspoil.reach import least_cuts, trace_to, wrong_ends
from lookspoil.stores import is_layout


def table(program, book):
    """The least table of the program for the book, or None if it does not keep it."""
    check_same_store(program, book)
    rows = []
    for name, layout in enumerate(book.layouts):
        found = least_cuts(program, layout)
        if len(wrong_ends(program, found, name)) > 0:
            return None
        rows.append(tuple(sorted(found)))
    return tuple(rows)


def refutation(program, book):
    """A refutation with the fewest cuts, or None if the program keeps the book."""
    check_same_store(program, book)
    best = None
    fewest = None
    for name, layout in enumerate(book.layouts):
        found = least_cuts(program, layout)
        wrong = wrong_ends(program, found, name)
        if len(wrong) > 0 and (best is None or found[wrong[0]][0] < fewest):
            fewest = found[wrong[0]][0]
            best = (name, trace_to(found, wrong[0]))
    return best


def is_table(program, book, thing):
    """Whether thing is a table of the program for the book."""
    check_same_store(program, book)
    names = len(book.layouts)
    if not is_tuple(names, names, thing):
        return False
    return all([is_closed(program, layout, name, row) for name, (layout, row) in enumerate(zip(book.layouts, thing))])


def is_refutation(program, book, thing):
    """Whether thing is a refutation of the program for the book."""
    check_same_store(program, book)
    if not (is_tuple(2, 2, thing) and is_name(book, thing[0])):
        return False
    end = trace_end(program, book.layouts[thing[0]], thing[1])
    return end is not None and told_at(program, end[0]) not in (None, thing[0])


def is_closed(program, layout, name, thing):
    """Whether thing is a tuple of pairs that hold all that a run from the layout can reach, and tell no other name."""
    if not (isinstance(thing, tuple) and all([is_place_and_layout(program, here) for here in thing])):
        return False
    known = {here: True for here in thing}
    if (0, layout) not in known or len(wrong_ends(program, known, name)) > 0:
        return False
    return all([goal in known for here in known for _, goal in moves_from(program, here)])


def is_place_and_layout(program, thing):
    """Whether thing is a pair of a place of the program and a layout of its store."""
    return is_tuple(2, 2, thing) and is_below(len(program.steps), thing[0]) and is_layout(program.store, thing[1])
