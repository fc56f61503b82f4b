"""Readers: programs that tell the names of a book, whoever has looked at its cells."""

from lookspoil.books import kept
from lookspoil.duels import program_of_duels
from lookspoil.moves import moved
from lookspoil.pairs import answers_ahead
from lookspoil.programs import check_same_store, has_puts
from lookspoil.stores import all_choices
from lookspoil.ways import comes


def bears(program, book):
    """Whether the program has no put and tells each name rightly, from all layouts that come from the name's."""
    check_same_store(program, book)
    looks = [looks_ahead(kind) for kind in book.store.kinds]
    return not has_puts(program) and tells_rightly(program, looks, begins_of(book))


def reader(book):
    """A program that bears the book, or None if there is none."""
    return program_of_duels(book, 0) if kept(book) else None


def most_looks(program):
    """The greatest number of looks that stand one behind another from place 0 on."""
    most = [0] * len(program.steps)
    for place in range(len(program.steps) - 1, -1, -1):
        step = program.steps[place]
        if step[0] == "look":
            most[place] = 1 + max([most[goal] for _, goal in step[2]])
        elif step[0] == "put":
            most[place] = most[step[3]]
    return most[0]


def begins_of(book):
    """All layouts that come from some name's, each with those names, as bits."""
    names = {}
    for name, layout in enumerate(book.layouts):
        cells = [comes(kind, standing) for kind, standing in zip(book.store.kinds, layout)]
        for begin in all_choices(cells):
            names[begin] = names.get(begin, 0) | 1 << name
    return names


def looks_ahead(kind):
    """For each standing what drifts and then one look can answer and lead to, as pairs (answer, standing)."""
    return [answers_ahead(kind, standing) for standing in range(kind.size)]


def tells_rightly(program, looks, begins):
    """Whether looks alone lead from each layout to tells of just the name that begins, a dict, has for it, as bits.

    looks has for each cell, and each standing, what a look there can answer and
    lead to. All steps lead to later places, so each place is done when its turn
    comes.
    """
    there = [{} for _ in program.steps]
    there[0] = begins
    for place, step in enumerate(program.steps):
        here = there[place]
        there[place] = {}
        if step[0] == "look":
            look_on(looks[step[1]], step, here, there)
        elif any([names != 1 << step[1] for names in here.values()]):
            return False
    return True


def look_on(ahead, step, here, there):
    """Add to there, a dict from layouts to names for each place, what the look leads to from those of here."""
    _, cell, goals = step
    places = dict(goals)
    for layout, names in here.items():
        for answer, standing in ahead[layout[cell]]:
            behind = there[places[answer]]
            goal = moved(layout, cell, standing)
            behind[goal] = behind.get(goal, 0) | names
