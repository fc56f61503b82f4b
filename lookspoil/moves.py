"""The moves of a run: what can happen at a place, with a layout, and where that leads.

Where a run is, is told by a pair (place, layout).
"""

from lookspoil.programs import told_at
from lookspoil.ways import goal_of_step

CUTS = ("cut", "spoilt", "torn")
LOOKED = ("step", "spoilt")


def is_cut(move):
    """Whether the move is a cut of any sort."""
    return move[0] in CUTS


def moves_from(program, here):
    """The moves that a run can make, ascending, as pairs (move, where it leads); [] where it has ended."""
    place, layout = here
    if told_at(program, place) is not None:
        return []
    step = program.steps[place]
    kind = program.store.kinds[step[1]]
    ahead = [(("cut",), (0, layout))] + drift_moves(program.store, place, layout)
    if step[0] == "look":
        return ahead + look_moves(kind, step, layout)
    return ahead + put_moves(kind, step, layout)


def drift_moves(store, place, layout):
    """The drifts of all cells, as pairs (move, where it leads)."""
    return [
        (("drift", cell, goal), (place, moved(layout, cell, goal)))
        for cell, (kind, standing) in enumerate(zip(store.kinds, layout)) for goal in kind.drifts[standing]]


def look_moves(kind, step, layout):
    """What the step, a look at a cell of this kind, lets happen, as pairs (move, where it leads)."""
    _, cell, goals = step
    places = dict(goals)
    outcomes = [
        (number, places[answer], moved(layout, cell, goal))
        for number, (answer, goal) in enumerate(kind.looks[layout[cell]])]
    spoilt = [(("spoilt", number), (0, behind)) for number, _, behind in outcomes]
    return spoilt + [(("step", number), (place, behind)) for number, place, behind in outcomes]


def put_moves(kind, step, layout):
    """What the step, a put to a cell of this kind, lets happen, as pairs (move, where it leads)."""
    _, cell, mark, place = step
    goal, torn = kind.puts[mark]
    done = [(("step", 0), (place, moved(layout, cell, goal)))]
    return done + [(("torn", standing), (0, moved(layout, cell, standing))) for standing in torn]


def moved(layout, cell, standing):
    """The layout with the cell in this standing."""
    return layout[:cell] + (standing,) + layout[cell + 1:]


def answer_of(program, here, move):
    """What is answered at a move that can be made: the answer of a look, None for all else."""
    place, layout = here
    step = program.steps[place]
    if step[0] != "look" or move[0] not in LOOKED:
        return None
    return program.store.kinds[step[1]].looks[layout[step[1]]][move[1]][0]


def trace_end(program, layout, thing):
    """Where a run is behind thing, if that is a trace from the layout; else None."""
    if not isinstance(thing, tuple):
        return None
    here = (0, layout)
    for move in thing:
        here = goal_of_step(moves_from(program, here), move)
        if here is None:
            return None
    return here
