"""Where the traces of a program lead, and with how few cuts."""

from lookspoil.moves import is_cut, moves_from
from lookspoil.programs import told_at


def least_cuts(program, layout):
    """Each pair (place, layout) to which traces from the layout lead, with how one with the fewest cuts comes there.

    That is a triple: the cuts, the last move, and the pair ahead of it; both
    None at the beginning. Pairs with fewer cuts come first.
    """
    found = {}
    begins = [((0, layout), None, None)]
    cuts = 0
    while begins:
        begins = spread(program, found, begins, cuts)
        cuts += 1
    return found


def spread(program, found, begins, cuts):
    """Add what moves that are no cuts reach from begins, and return what the cuts from there reach.

    Both begins and what is returned are triples: a pair, the move to it, and the pair ahead of that.
    """
    waiting = list(begins)
    behind_cuts = []
    at = 0
    while at < len(waiting):
        here, last, ahead = waiting[at]
        at += 1
        if here not in found:
            found[here] = (cuts, last, ahead)
            for move, goal in moves_from(program, here):
                if is_cut(move):
                    behind_cuts.append((goal, move, here))
                else:
                    waiting.append((goal, move, here))
    return behind_cuts


def trace_to(found, here):
    """The trace by which least_cuts has found the pair."""
    moves = []
    _, move, ahead = found[here]
    while move is not None:
        moves.append(move)
        _, move, ahead = found[ahead]
    return tuple(moves[::-1])


def wrong_ends(program, found, name):
    """Those of the pairs found at which another name is told."""
    return [here for here in found if told_at(program, here[0]) not in (None, name)]
