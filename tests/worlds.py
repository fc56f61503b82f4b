"""Programs by chance, and what can happen to their runs, by the words of sections 6 and 7 alone."""

import itertools
import math
import random

from lookspoil.kinds import Kind
from lookspoil.programs import Program
from lookspoil.stores import Book, Store
from tests.samples import (
    CORE, FOG, GEARS, LATE, MIST, SLIP, STEEP, STILL, WHEEL, all_pairs, coming, greatest_looks, some_kinds)

# Every put can be torn, also to where no look leads.
TORN = Kind((((0, 0),), ((1, 0),), ((2, 1), (3, 2))), ((), (2,), ()), ((1, (0, 2)), (2, ()), (0, (0, 1, 2))))
PAIR = Store((TORN, MIST))
SHORT = Program(Store((CORE,)), (("look", 0, ((0, 1), (1, 2))), ("tell", 0), ("tell", 1)))
BOTH = Book(Store((CORE,)), ((0,), (1,)))
# Books of other stores than that of SHORT.
OTHERS = (
    Book(Store((CORE, CORE)), ((0, 0), (0, 1))), Book(Store((STILL,)), ((0,), (0,))), Book(Store((WHEEL,)), ((0,),)))


def answers_of_cell(kind):
    return sorted({answer for outcomes in kind.looks for answer, _ in outcomes})


def chance_step(chance, store, place, size, names, words):
    """A step by chance; what is the last place, or stands ahead of no later one, is a tell."""
    word = chance.choice(words) if place < size - 1 else "tell"
    cell = chance.randrange(len(store.kinds))
    kind = store.kinds[cell]
    if word == "put" and kind.puts:
        return ("put", cell, chance.randrange(len(kind.puts)), chance.randrange(place + 1, size))
    if word == "tell":
        return ("tell", chance.choice(names))
    near = min(size, place + 4)
    return ("look", cell, tuple((answer, chance.randrange(place + 1, near)) for answer in answers_of_cell(kind)))


def chance_program(chance, store, size, names=(0, 1), words=("look", "look", "look", "look", "put", "tell")):
    return Program(store, tuple(chance_step(chance, store, place, size, names, words) for place in range(size)))


def chance_store(chance, kinds, most=3):
    return Store(tuple(chance.choice(kinds) for _ in range(chance.randint(1, most))))


def chance_layout(chance, store):
    return tuple(chance.randrange(kind.size) for kind in store.kinds)


def put_kinds(many, seed):
    """Kinds of all sorts with puts."""
    chance = random.Random(seed)
    made = []
    for kind in some_kinds(many, seed, sizes=(1, 2, 3), answers=2, drifts=1):
        puts = [
            (chance.randrange(kind.size), tuple(sorted(chance.sample(range(kind.size), chance.randint(0, kind.size)))))
            for _ in range(chance.randint(0, 3))]
        made.append(Kind(kind.looks, kind.drifts, tuple(puts)))
    return made


def some_cases(many, seed, sizes=(1, 2, 3, 4, 6, 9)):
    """Programs of all sorts of stores with a book each."""
    chance = random.Random(seed)
    kinds = put_kinds(30, seed) + [CORE, STILL, STILL, WHEEL, TORN, TORN, SLIP, MIST]
    made = [(SHORT, BOTH)]
    for _ in range(many):
        store = chance_store(chance, kinds, 2)
        names = range(chance.randint(1, 3))
        book = Book(store, tuple(chance_layout(chance, store) for _ in names))
        made.append((chance_program(chance, store, chance.choice(sizes), list(names)), book))
    return made


def dry_case(lengths):
    """A store of cells that dry, with a program that looks at each one and tells 0 at the first that is not dry."""
    kinds = [
        Kind((((0, 0),), *[((1, at),) for at in range(most)]), ((),) * (most + 1), ()) for most in lengths]
    store = Store(tuple(kinds))
    cells = len(lengths)
    looks = [("look", cell, ((0, cell + 1), (1, cells + 1))) for cell in range(cells)]
    return (Program(store, (*looks, ("tell", 1), ("tell", 0))),
            Book(store, (tuple(lengths), (0,) * cells)))


def level_case(lengths, order):
    """A program that tells by the first of some cells that is not dry, with the names of the cells in this order.

    The name of a cell is told wrongly behind as many cuts as the cell has looks; that of no cell, the last one, never.
    """
    dry, _ = dry_case(lengths)
    cells = len(lengths)
    looks = [("look", cell, ((0, cell + 1), (1, cells + 1 + cell))) for cell in range(cells)]
    program = Program(dry.store, (*looks, ("tell", order[-1]), *[("tell", name) for name in order[:-1]]))
    layouts = {name: (0,) * at + lengths[at:] for at, name in enumerate(order)}
    return program, Book(dry.store, tuple(layouts[name] for name in range(cells + 1)))


def gap_case(ahead, between, word="look"):
    """A program that looks at two cells that dry, one by one, with so many needless steps ahead of and between both.

    A second cut that does harm comes ahead + between + 1 steps behind the first one.
    """
    dry, _ = dry_case((1, 1))
    marked = Kind(STILL.looks, STILL.drifts, ((1, ()),))
    store = Store((marked, *dry.store.kinds))
    end = ahead + between + 2

    def needless(places):
        if word == "put":
            return [("put", 0, 0, at + 1) for at in places]
        return [("look", 0, ((0, at + 1), (1, at + 1))) for at in places]

    steps = [*needless(range(ahead)), ("look", 1, ((0, ahead + 1), (1, end + 1))),
             *needless(range(ahead + 1, end - 1)), ("look", 2, ((0, end), (1, end + 1))), ("tell", 1), ("tell", 0)]
    return Program(store, tuple(steps)), Book(store, ((0, 1, 1), (1, 0, 0)))


def keeping_cases():
    """Programs that keep a book, with that book."""
    still = Store((STILL, STILL))
    both = Program(still, (
        ("look", 0, ((0, 1), (1, 2))), ("look", 1, ((0, 3), (1, 4))), ("look", 1, ((0, 5), (1, 6))),
        ("tell", 0), ("tell", 1), ("tell", 2), ("tell", 3)))
    marks = Kind(STILL.looks, STILL.drifts, ((0, (0, 1)), (1, (0, 1))))
    noted = Program(Store((STILL, marks)), (
        ("look", 1, ((0, 1), (1, 1))), ("look", 0, ((0, 2), (1, 3))), ("put", 1, 0, 4), ("put", 1, 1, 5),
        ("tell", 0), ("tell", 1)))
    wheel = Kind((((0, 1),), ((1, 0),), ((0, 3),), ((2, 2),)), ((), (), (), ()), ())
    turned = Program(Store((wheel,)), (
        ("look", 0, ((0, 1), (1, 2), (2, 3))), ("look", 0, ((0, 2), (1, 2), (2, 3))), ("tell", 0), ("tell", 7)))
    told = Program(Store((MIST,)), (("look", 0, ((0, 1), (1, 1), (2, 1), (3, 1))), ("tell", 0), ("tell", 5)))
    return [
        (both, Book(still, ((0, 0), (0, 1), (1, 0), (1, 1)))), (noted, Book(noted.store, ((0, 1), (1, 1)))),
        (turned, Book(turned.store, ((1,),))), (told, Book(told.store, ((0,),))),
        (Program(still, (("tell", 0),)), Book(still, ((1, 1),)))]


def mixed_cases(many, seed):
    """Cases of all these sorts."""
    dry = [dry_case(lengths) for lengths in [(1,), (2,), (3,), (1, 1), (2, 1), (1, 2), (2, 2), (1, 1, 1)]]
    levels = [
        level_case(lengths, order) for lengths in [(3, 2), (1, 3), (2, 2)] for order in itertools.permutations(range(3))]
    return some_cases(many, seed) + keeping_cases() + dry + levels + [
        gap_case(ahead, between, word) for ahead in range(2) for between in range(3) for word in ("look", "put")]


def behind(program, place, layout, move):
    """The pair (place, layout) behind a move, None if it can't be made."""
    step, store = program.steps[place], program.store
    if step[0] == "tell":
        return None
    kind, standing = store.kinds[step[1]], layout[step[1]]

    def with_cell(cell, now):
        return tuple(now if at == cell else then for at, then in enumerate(layout))

    if move == ("cut",):
        return 0, layout
    if move[0] == "drift":
        if move[1] < len(layout) and move[2] in store.kinds[move[1]].drifts[layout[move[1]]]:
            return place, with_cell(move[1], move[2])
    elif move[0] == "torn":
        if step[0] == "put" and move[1] in kind.puts[step[2]][1]:
            return 0, with_cell(step[1], move[1])
    elif step[0] == "look" and move[1] < len(kind.looks[standing]):
        answer, goal = kind.looks[standing][move[1]]
        if move[0] == "spoilt":
            return 0, with_cell(step[1], goal)
        return next(place for told, place in step[2] if told == answer), with_cell(step[1], goal)
    elif step[0] == "put" and move == ("step", 0):
        return step[3], with_cell(step[1], kind.puts[step[2]][0])
    return None


CANDIDATES = (
    [("cut",)] + [("drift", cell, goal) for cell in range(5) for goal in range(8)]
    + [(word, number) for word in ("spoilt", "step", "torn") for number in range(8)])


def all_moves(program, place, layout):
    """All moves that can be made, in the order in which Python puts them."""
    return [move for move in sorted(CANDIDATES) if behind(program, place, layout, move) is not None]


def is_cutting(move):
    return move[0] in ("cut", "spoilt", "torn")


def graph_from(program, layout):
    """For each pair (place, layout) that can be reached the list of the moves there, with the pairs behind them."""
    graph, waiting = {}, [(0, layout)]
    while waiting:
        here = waiting.pop()
        if here not in graph:
            graph[here] = [(move, behind(program, *here, move)) for move in all_moves(program, *here)]
            waiting += [goal for _, goal in graph[here]]
    return graph


def fewest_cuts(program, layout):
    """For each pair that can be reached the fewest cuts, by making it less until nothing changes."""
    graph = graph_from(program, layout)
    known = {(0, layout): 0}
    while True:
        before = dict(known)
        for here in graph:
            for move, goal in graph[here] if here in known else ():
                known[goal] = min(known.get(goal, 10 ** 9), known[here] + is_cutting(move))
        if before == known:
            return known


def wrong_tells(program, known, name):
    """Those of the pairs at which another name is told."""
    return [here for here in known if program.steps[here[0]][0] == "tell" and program.steps[here[0]][1] != name]


def cuts_of_worst(program, book):
    """The fewest cuts of a refutation, None if there is none."""
    found = []
    for name, layout in enumerate(book.layouts):
        known = fewest_cuts(program, layout)
        found += [known[here] for here in wrong_tells(program, known, name)]
    return min(found, default=None)


def chance_trace(chance, program, layout, many, easy=("step", "drift")):
    """A trace of at most many moves, that likes the words of easy, and where it leads."""
    moves, here = [], (0, layout)
    for _ in range(many):
        every = all_moves(program, *here)
        if not every:
            break
        liked = [move for move in every if move[0] in easy]
        move = chance.choice(liked if liked and chance.random() < 0.7 else every)
        moves.append(move)
        here = behind(program, *here, move)
    return tuple(moves), here


def with_put_in(thing, at, part):
    """The tuple with part in the place at."""
    return thing[:at] + (part,) + thing[at + 1:]


def pairs_of_names(book):
    return list(itertools.product(range(len(book.layouts)), repeat=2))


def chain(store, size, name=0, cell=0):
    """A program of so many places: looks one behind another, and a tell."""
    answers = answers_of_cell(store.kinds[cell])
    looks = [("look", cell, tuple((answer, at + 1) for answer in answers)) for at in range(size - 1)]
    return Program(store, (*looks, ("tell", name)))


def ring_kind(chance, rings, answers, noise=0, drifts=0):
    """A kind in which looks lead round in rings of these sizes, by chance with a second outcome or a drift inside."""
    looks, drifting, first = [], [], 0
    for size in rings:
        ring = list(range(first, first + size))
        first += size
        for at in ring:
            outcomes = {(chance.randrange(answers), ring[(at + 1) % size])}
            if chance.random() < noise:
                outcomes.add((chance.randrange(answers), chance.choice(ring)))
            looks.append(tuple(sorted(outcomes)))
            drifting.append((chance.choice(ring),) if chance.random() < drifts else ())
    return Kind(tuple(looks), tuple(drifting), ())


def apart_layouts(chance, store, many):
    """At most many layouts of which each two are apart, by a search."""
    kinds = [{
        (u, v) for u, v in itertools.product(range(kind.size), repeat=2)
        if greatest_looks(kind, all_pairs(kind, u, v)) is not None} for kind in store.kinds]
    chosen = []
    for _ in range(10 * many):
        one = chance_layout(chance, store)
        if all(any(pair in cell for pair, cell in zip(zip(one, two), kinds)) for two in chosen):
            chosen.append(one)
    return tuple(chosen[:many])


def kept_books(many, seed, cells=3, names=5, size=1000):
    """Kept books of kinds of all sorts, with no more layouts of the store than size."""
    chance = random.Random(seed)
    kinds = [CORE, STILL, STILL, WHEEL, GEARS, STEEP, LATE, SLIP, FOG]
    for rings in [(1, 1), (1, 2), (2, 2), (1, 1, 1), (3, 2), (1, 4), (2, 1, 1)]:
        kinds += [ring_kind(chance, rings, answers, noise, drifts) for answers, noise, drifts in [
            (2, 0, 0), (3, 0.3, 0), (6, 0.3, 0.3), (10, 0.5, 0.3)]]
    made = []
    while len(made) < many:
        store = chance_store(chance, kinds, cells)
        if math.prod(kind.size for kind in store.kinds) <= size:
            layouts = apart_layouts(chance, store, chance.randint(1, names))
            if len(layouts) > 1 or chance.random() < 0.1:
                made.append(Book(store, layouts))
    return made


def layouts_coming(book, name):
    """All layouts in which each cell's standing comes from that of the name's layout."""
    cells = [coming(kind)[at] for kind, at in zip(book.store.kinds, book.layouts[name])]
    return list(itertools.product(*cells))


def uncut_from(program, layouts):
    """For each pair (place, layout) that traces without cuts from some of layouts reach the moves and pairs behind."""
    graph, waiting = {}, [(0, layout) for layout in layouts]
    while waiting:
        here = waiting.pop()
        if here not in graph:
            moves = [move for move in all_moves(program, *here) if not is_cutting(move)]
            graph[here] = [(move, behind(program, *here, move)) for move in moves]
            waiting += [goal for _, goal in graph[here]]
    return graph


def bears_found(program, book):
    """What bears must tell, by a search."""
    if any(step[0] == "put" for step in program.steps):
        return False
    return not any(
        wrong_tells(program, uncut_from(program, layouts_coming(book, name)), name)
        for name in range(len(book.layouts)))


def drifted(store, worlds):
    """The pairs of a name and a layout to which drifts lead from some of these."""
    found, waiting = set(), list(worlds)
    while waiting:
        name, layout = waiting.pop()
        if (name, layout) not in found:
            found.add((name, layout))
            for cell, kind in enumerate(store.kinds):
                waiting += [
                    (name, layout[:cell] + (goal,) + layout[cell + 1:]) for goal in kind.drifts[layout[cell]]]
    return frozenset(found)


def looked(store, worlds, cell):
    """The worlds that are left behind each answer of a look at the cell."""
    behind = {}
    for name, layout in worlds:
        for answer, goal in store.kinds[cell].looks[layout[cell]]:
            behind.setdefault(answer, set()).add((name, layout[:cell] + (goal,) + layout[cell + 1:]))
    return [drifted(store, left) for left in behind.values()]


# Looks tell the two rings apart only late, and in very many ways.
BUSY = Kind(
    (((5, 1), (7, 0), (9, 1)), ((3, 3), (5, 0), (9, 3)), ((6, 0), (6, 1), (9, 0)), ((3, 0), (5, 3), (7, 2), (8, 2)),
     ((2, 5), (5, 7), (6, 4), (9, 4)), ((0, 5), (3, 5), (5, 4), (7, 6)), ((6, 4), (6, 6), (7, 4), (9, 6)),
     ((0, 6), (2, 5), (6, 5), (9, 7))),
    ((), (1,), (1,), (3,), (4,), (4,), (6,), ()), ())
THREE = Kind((((0, 0),), ((1, 1),), ((2, 2),)), ((),) * 3, ())
BUSY_BOOK = Book(Store((THREE, BUSY, BUSY)), tuple(itertools.product((0, 1, 2), (0, 4), (0, 4))))
