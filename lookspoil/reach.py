"""Where the traces of a program lead, and with how few cuts."""

from lookspoil.moves import is_cut, moves_from
from lookspoil.programs import told_at


def least_cuts(program, layout):
    """Each pair (place, layout) to which traces from the layout lead, with how one with the fewest cuts comes there.

    That is a triple: the cuts, the last move, and the pair ahead of it; both
    None at the beginning. Pairs with fewer cuts come first.
    """
    found = {}
    begins = {(0, layout): (None, None)}
    cuts = 0
    while begins:
        begins = spread(program, found, begins, cuts)
        cuts += 1
    return found


def spread(program, found, begins, cuts):
    """Add begins, and what moves that are no cuts reach from there, and return what cuts reach from all that is new.

    Both begins and what is returned are dicts from pairs to the move that leads there and the pair ahead of it.
    """
    waiting = [here for here in begins if here not in found]
    for here in waiting:
        move, ahead = begins[here]
        found[here] = (cuts, move, ahead)
    behind_cuts = {}
    at = 0
    while at < len(waiting):
        here = waiting[at]
        at += 1
        for move, goal in moves_from(program, here):
            if goal not in found and is_cut(move):
                behind_cuts.setdefault(goal, (move, here))
            elif goal not in found:
                found[goal] = (cuts, move, here)
                waiting.append(goal)
    return behind_cuts


def trace_to(found, here):
    """The trace by which least_cuts has found the pair."""
    moves = []
    _, move, ahead = found[here]
    while move is not None:
        moves.append(move)
        _, move, ahead = found[ahead]
    return tuple(moves[::-1])


def wrong_ends(program, found, name):
    """Those of the pairs found at which another name is told."""
    return [here for here in found if told_at(program, here[0]) not in (None, name)]
