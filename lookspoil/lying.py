"""Cells that lie: programs that tell the names although some cells answer whatever the world chooses."""

from itertools import combinations

from lookspoil.books import all_alike, cells_apart, name_pairs
from lookspoil.checks import is_between
from lookspoil.duels import program_of_duels
from lookspoil.errors import NoNumber
from lookspoil.kinds import answers_of
from lookspoil.programs import check_same_store, has_puts
from lookspoil.readers import begins_of, looks_ahead, tells_rightly

MOST_LIARS = 5
MOST_LIES = 2


def tells_with_lies(program, book, many):
    """Whether the program bears the book, and still does so if any at most many cells lie."""
    check_same_store(program, book)
    check_liars(many)
    if has_puts(program):
        return False
    cells = len(book.store.kinds)
    return all([tells_with_liars(program, book, liars) for liars in lots_of_liars(cells, min(many, cells))])


def lies_borne(book):
    """The greatest number of cells, at most 2, that may lie; -1 if the book is not kept."""
    alike = all_alike(book)
    fewest = min([len(cells_apart(book, alike, one, two)) for one, two in name_pairs(book)], default=None)
    if fewest is None:
        return MOST_LIES
    return min(MOST_LIES, (fewest + 1) // 2 - 1)


def lie_reader(book, many):
    """A program that tells with lies of many cells, or None if there is none."""
    check_liars(many)
    if len(book.layouts) > 1 and many > lies_borne(book):
        return None
    return program_of_duels(book, many)


def check_liars(many):
    """Raise NoNumber for what is no number of cells that may lie."""
    if not is_between(0, MOST_LIARS, many):
        raise NoNumber()


def lots_of_liars(cells, many):
    """The tuples of just many cells: what fewer ones answer when they lie, more ones can answer, too."""
    return list(combinations(range(cells), many))


def tells_with_liars(program, book, liars):
    """Whether the program, without puts, tells the names rightly if just the cells of liars lie."""
    looks = [
        lying_looks(kind) if cell in liars else looks_ahead(kind) for cell, kind in enumerate(book.store.kinds)]
    begins = {}
    for layout, names in begins_of(book).items():
        begin = tuple([0 if cell in liars else standing for cell, standing in enumerate(layout)])
        begins[begin] = begins.get(begin, 0) | names
    return tells_rightly(program, looks, begins)


def lying_looks(kind):
    """What looks at a cell of this kind that lies answer, as looks_ahead tells it: it always stands in 0."""
    return [[(answer, 0) for answer in answers_of(kind)]]
