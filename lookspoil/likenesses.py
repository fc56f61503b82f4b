"""Likenesses: how two standings can answer alike for ever."""

from lookspoil.checks import is_tuple
from lookspoil.pairs import height_table, joint_steps, pairs_of
from lookspoil.ways import all_steps, end_of_steps


def likeness(kind, u, v):
    """A likeness of u and v, or None if they are apart."""
    pairs = pairs_of(kind, u, v)
    joint = joint_table(kind, pairs)
    ways = all_steps(kind)
    table = height_table(kind)
    for s, t in [pair for pair in pairs if pair not in table]:
        ring = ring_from(joint, (s, t))
        if ring is not None:
            return least_path(ways, u, s), least_path(ways, v, t), ring
    return None


def is_likeness(kind, u, v, thing):
    """Whether thing is a likeness of u and v."""
    pairs = pairs_of(kind, u, v)
    if not is_tuple(3, 3, thing):
        return False
    one, two, ring = thing
    ways = all_steps(kind)
    pair = (end_of_steps(ways, u, one), end_of_steps(ways, v, two))
    if pair not in pairs:
        return False
    return end_of_steps(joint_table(kind, pairs), pair, ring) == pair and "both" in [step[0] for step in ring]


def joint_table(kind, pairs):
    """The joint steps from each of pairs."""
    return {pair: joint_steps(kind, pair) for pair in pairs}


def ring_from(joint, pair):
    """A ring that begins with a joint look from the pair, or None.

    Each ring with a joint look can be turned so that it begins with that.
    """
    for step, goal in joint[pair]:
        if step[0] == "both":
            back = least_path(joint, goal, pair)
            if back is not None:
                return (step,) + back
    return None


def least_path(steps, begin, end):
    """A shortest tuple of steps of the table that leads from begin to end, or None if there is none."""
    paths = {begin: ()}
    reached = [begin]
    at = 0
    while at < len(reached) and end not in paths:
        here = reached[at]
        for step, goal in steps[here]:
            if goal not in paths:
                paths[goal] = paths[here] + (step,)
                reached.append(goal)
        at += 1
    return paths.get(end)
