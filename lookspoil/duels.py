"""Duels: two names at a time are asked against one another, at cells some of which may lie.

A point of a duel is a tuple of the two names, the number of the cells that
are done with, at how many of them each name was put out, and the standings of
each one in which the cell that is asked now can be.
"""

from lookspoil.books import all_alike, cells_apart, name_pairs
from lookspoil.kinds import answers_of
from lookspoil.making import program_of_points, told
from lookspoil.paths import longest_paths
from lookspoil.ways import after_row, comes


def program_of_duels(book, many):
    """A program that bears the book while at most many cells lie; each two names are apart in 2 * many + 1 cells.

    One name after the other is asked against that which has won so far. At
    each cell that does not lie the right name can give all answers, and the
    other one can't: so the one that is put out at more than many cells is not
    the right one.
    """
    duels = Duels(book, many)
    names = len(book.layouts)
    points = {}
    for two in range(1, names):
        for one in range(two):
            goals = duels.goals_from(duels.begin(one, two))
            for point in falling(goals):
                points[point] = (duels.cell_at(point), goals[point])
    return program_of_points(book.store, points, names)


class Duels:
    """How the names of a book are asked against one another while at most many cells lie."""

    def __init__(self, book, many):
        alike = all_alike(book)
        self.book = book
        self.many = many
        # The cells that are asked, for each two names: no more than are needed.
        self.cells = {
            (one, two): cells_apart(book, alike, one, two)[:2 * many + 1] for one, two in name_pairs(book)}

    def begin(self, one, two):
        """The point at which one, who has won so far, is asked against two; behind the last name one is told."""
        if two == len(self.book.layouts):
            return told(one)
        return self.turn(one, two, 0, (0, 0))

    def turn(self, one, two, turn, outs):
        """The point at which the two names come to their next cell."""
        cell = self.cells[(one, two)][turn]
        behind = [
            tuple(comes(self.book.store.kinds[cell], self.book.layouts[name][cell])) for name in (one, two)]
        return one, two, turn, outs, behind[0], behind[1]

    def cell_at(self, point):
        """The cell that is asked at the point."""
        return self.cells[point[:2]][point[2]]

    def goals_from(self, begin):
        """For each point at which the two names of begin are both still in the pairs (answer, next point)."""
        kinds = self.book.store.kinds
        goals = {}
        waiting = [begin]
        while waiting:
            point = waiting.pop()
            if point not in goals:
                answers = answers_of(kinds[self.cell_at(point)])
                goals[point] = [(answer, self.behind(point, answer)) for answer in answers]
                waiting.extend([goal for _, goal in goals[point] if goal[:2] == begin[:2]])
        return goals

    def behind(self, point, answer):
        """The point at which to go on behind the answer."""
        one, two, turn, outs, first, second = point
        kind = self.book.store.kinds[self.cell_at(point)]
        first_behind = after_row(kind, first, (answer,))
        second_behind = after_row(kind, second, (answer,))
        if len(first_behind) > 0 and len(second_behind) > 0:
            return one, two, turn, outs, tuple(first_behind), tuple(second_behind)
        first_outs = outs[0] + (1 if len(first_behind) == 0 else 0)
        second_outs = outs[1] + (1 if len(second_behind) == 0 else 0)
        if first_outs > self.many:
            return self.begin(two, two + 1)
        if second_outs > self.many:
            return self.begin(one, two + 1)
        return self.turn(one, two, turn + 1, (first_outs, second_outs))


def falling(goals):
    """The points of a duel in such an order that each leads to later ones: they never lead round, as both are apart."""
    longest = longest_paths({point: [goal for _, goal in goals[point] if goal in goals] for point in goals})
    return sorted(goals, key=lambda point: -longest[point])
