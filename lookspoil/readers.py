"""Readers: programs that tell the names of a book, whoever has looked at its cells."""

from lookspoil.books import all_alike, cells_apart, kept, name_pairs, standings_in
from lookspoil.kinds import answers_of
from lookspoil.making import program_of_points, told
from lookspoil.moves import moved
from lookspoil.pairs import answers_ahead
from lookspoil.paths import longest_paths
from lookspoil.programs import check_same_store, has_puts
from lookspoil.ways import after_row, comes


def bears(program, book):
    """Whether the program has no put and tells each name rightly, from all layouts that come from the name's."""
    check_same_store(program, book)
    return not has_puts(program) and tells_rightly(program, begins_of(book))


def reader(book):
    """A program that bears the book, or None if there is none.

    One name after the other is asked against that which has won so far. Who
    can't give an answer is out; the right name can always give it.
    """
    if not kept(book):
        return None
    names = len(book.layouts)
    alike = all_alike(book)
    cells = {(one, two): cells_apart(book, alike, one, two)[0] for one, two in name_pairs(book)}
    points = {}
    for two in range(1, names):
        for one in range(two):
            goals = duel_goals(book, cells, begin_point(book, cells, one, two))
            for point in falling(goals):
                points[point] = (cells[(one, two)], goals[point])
    return program_of_points(book.store, points, names)


def most_looks(program):
    """The greatest number of looks that stand one behind another from place 0 on."""
    most = [0] * len(program.steps)
    for place in range(len(program.steps) - 1, -1, -1):
        step = program.steps[place]
        if step[0] == "look":
            most[place] = 1 + max([most[goal] for _, goal in step[2]])
        elif step[0] == "put":
            most[place] = most[step[3]]
    return most[0]


def begins_of(book):
    """All layouts that come from some name's, each with those names, as bits."""
    names = {}
    for name, layout in enumerate(book.layouts):
        cells = [comes(kind, standing) for kind, standing in zip(book.store.kinds, layout)]
        for begin in all_choices(cells):
            names[begin] = names.get(begin, 0) | 1 << name
    return names


def all_choices(lists):
    """All tuples of one thing of each list."""
    made = [()]
    for things in lists:
        made = [ahead + (thing,) for ahead in made for thing in things]
    return made


def tells_rightly(program, begins):
    """Whether looks alone lead from each layout to tells of just the name that begins, a dict, has for it, as bits.

    All steps lead to later places, so each place is done when its turn comes.
    """
    there = [{} for _ in program.steps]
    there[0] = begins
    for place, step in enumerate(program.steps):
        here = there[place]
        there[place] = {}
        if step[0] == "look":
            look_on(program.store.kinds[step[1]], step, here, there)
        elif any([names != 1 << step[1] for names in here.values()]):
            return False
    return True


def look_on(kind, step, here, there):
    """Add to there, a dict from layouts to names for each place, what the look leads to from those of here."""
    _, cell, goals = step
    places = dict(goals)
    ahead = [answers_ahead(kind, standing) for standing in range(kind.size)]
    for layout, names in here.items():
        for answer, standing in ahead[layout[cell]]:
            behind = there[places[answer]]
            goal = moved(layout, cell, standing)
            behind[goal] = behind.get(goal, 0) | names


def begin_point(book, cells, one, two):
    """The point at which one, who has won so far, is asked against two: both, and where their cell can stand.

    cells has the cell for each two names. Behind the last name one is told.
    """
    if two == len(book.layouts):
        return told(one)
    kind, u, v = standings_in(book, cells[(one, two)], one, two)
    return one, two, tuple(comes(kind, u)), tuple(comes(kind, v))


def duel_goals(book, cells, begin):
    """For each point at which the two names of begin are both still in the pairs (answer, next point)."""
    kind = book.store.kinds[cells[begin[:2]]]
    goals = {}
    waiting = [begin]
    while waiting:
        point = waiting.pop()
        if point not in goals:
            goals[point] = [(answer, point_behind(book, cells, point, answer)) for answer in answers_of(kind)]
            waiting.extend([goal for _, goal in goals[point] if goal[:2] == begin[:2]])
    return goals


def point_behind(book, cells, point, answer):
    """The point at which to go on behind the answer."""
    one, two, first, second = point
    kind = book.store.kinds[cells[(one, two)]]
    first_behind = after_row(kind, first, (answer,))
    second_behind = after_row(kind, second, (answer,))
    if len(first_behind) == 0:
        return begin_point(book, cells, two, two + 1)
    if len(second_behind) == 0:
        return begin_point(book, cells, one, two + 1)
    return one, two, tuple(first_behind), tuple(second_behind)


def falling(goals):
    """The points of a duel in such an order that each leads to later ones: they never lead round, as both are apart."""
    longest = longest_paths({point: [goal for _, goal in goals[point] if goal in goals] for point in goals})
    return sorted(goals, key=lambda point: -longest[point])
