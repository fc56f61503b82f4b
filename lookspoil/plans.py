"""The cutter's plan: how cuts lead the worlds of two names to one tell place."""

from lookspoil.benches import Bench
from lookspoil.books import check_name, is_denial
from lookspoil.checks import is_tuple
from lookspoil.errors import NoDenial
from lookspoil.moves import trace_end
from lookspoil.programs import check_same_store, told_at


def bound(book, denied):
    """How many cuts a plan from the denial needs at most."""
    check_denial(book, denied)
    return sum([max(looks_in(one), looks_in(two)) for one, two, _ in denied[2]])


def plan(program, book, denied):
    """A plan for the two names of the denial, with at most as many cuts in each trace as its bound."""
    check_same_store(program, book)
    check_denial(book, denied)
    one, two, likenesses = denied
    worlds = (Bench(program, book.layouts[one]), Bench(program, book.layouts[two]))
    trails = [Trail(likeness) for likeness in likenesses]
    while worlds[0].name() is None:
        word = program.steps[worlds[0].place][0]
        cell = program.steps[worlds[0].place][1]
        if word == "put" or worlds[0].layout()[cell] == worlds[1].layout()[cell]:
            # Whatever is done alike to cells that are equal leaves them so, for good.
            worlds[0].do(("step", 0))
            worlds[1].do(("step", 0))
        elif not trails[cell].cut_on_ways(worlds, cell):
            trails[cell].look_on_ring(worlds, cell)
    return worlds[0].trace(), worlds[1].trace()


def is_plan(program, book, one, two, thing):
    """Whether thing is a plan against the program for two names."""
    check_same_store(program, book)
    check_name(book, one)
    check_name(book, two)
    if not is_tuple(2, 2, thing):
        return False
    first = trace_end(program, book.layouts[one], thing[0])
    second = trace_end(program, book.layouts[two], thing[1])
    if first is None or second is None:
        return False
    return first[0] == second[0] and told_at(program, first[0]) is not None


class Trail:
    """How far one cell has come in both worlds: on the ways of its likeness, then round on the ring."""

    def __init__(self, likeness):
        one, two, ring = likeness
        # What is left of the ways, the next step last.
        self.one = list(one[::-1])
        self.two = list(two[::-1])
        self.ring = ring
        self.turned = 0

    def cut_on_ways(self, worlds, cell):
        """Drift to the next look of both ways, and cut both worlds, there where looks are left; whether any was."""
        first = next_look(worlds[0], cell, self.one)
        second = next_look(worlds[1], cell, self.two)
        if first is None and second is None:
            return False
        cut_at(worlds[0], first)
        cut_at(worlds[1], second)
        return True

    def look_on_ring(self, worlds, cell):
        """Drift to the next joint look of the ring, and make it."""
        step = self.turn()
        while step[0] != "both":
            worlds[0 if step[0] == "first" else 1].do(("drift", cell, step[1]))
            step = self.turn()
        worlds[0].do(("step", step[1]))
        worlds[1].do(("step", step[2]))

    def turn(self):
        """The next step of the ring."""
        step = self.ring[self.turned]
        self.turned = (self.turned + 1) % len(self.ring)
        return step


def next_look(world, cell, left):
    """Drift as is told by what is left of a way; the number of the look that is next on it, or None."""
    while left:
        word, number = left.pop()
        if word == "look":
            return number
        world.do(("drift", cell, number))
    return None


def cut_at(world, number):
    """Cut a world at a look: behind the outcome of this number, or for None ahead of it."""
    world.do(("cut",) if number is None else ("spoilt", number))


def looks_in(way):
    """The number of looks in the way."""
    return len([step for step in way if step[0] == "look"])


def check_denial(book, denied):
    """Raise NoDenial for what is no denial of the book."""
    if not is_denial(book, denied):
        raise NoDenial()
