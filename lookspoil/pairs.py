"""Pairs of standings: steps that they can make alike, and how high they stand.

Two standings are apart exactly if no pair that comes from them has endless
joint looks ahead. So all is told by one table: the greatest number of joint
looks, one behind another, that a pair has ahead, for the pairs that have one.
"""

from lookspoil.checks import is_integer
from lookspoil.paths import longest_paths
from lookspoil.ways import closed, comes


def apart(kind, u, v):
    """Whether u and v are apart."""
    table = height_table(kind)
    return all([pair in table for pair in pairs_of(kind, u, v)])


def alike_pairs(kind):
    """The ascending list of the pairs (u, v), u < v, that are alike."""
    table = height_table(kind)
    behind = [comes(kind, standing) for standing in range(kind.size)]
    every = [(u, v) for u in range(kind.size) for v in range(u + 1, kind.size)]
    return [(u, v) for u, v in every if not all([(s, t) in table for s in behind[u] for t in behind[v]])]


def heights(kind, u, v):
    """The least heights for u and v, or None if they are alike."""
    pairs = pairs_of(kind, u, v)
    table = height_table(kind)
    if not all([pair in table for pair in pairs]):
        return None
    return {pair: table[pair] for pair in pairs}


def is_heights(kind, u, v, thing):
    """Whether thing is heights for u and v."""
    pairs = pairs_of(kind, u, v)
    if not isinstance(thing, dict) or len(thing) != len(pairs):
        return False
    if not all([pair in thing and is_integer(thing[pair]) and thing[pair] >= 0 for pair in pairs]):
        return False
    return all([falls(kind, pair, thing) for pair in pairs])


def common(kind, u, v):
    """The greatest number of answers of a row that both can give, or None if they are alike."""
    told = heights(kind, u, v)
    if told is None:
        return None
    return max(told.values())


def common_row(kind, u, v):
    """A row of so many answers as common tells, or None."""
    told = heights(kind, u, v)
    if told is None:
        return None
    goals = joint_goals(kind)
    here = first_of_height(told, told, max(told.values()))
    row = []
    while told[here] > 0:
        goal = first_of_height(told, goals[here], told[here] - 1)
        row.append(goals[here][goal])
        here = goal
    return tuple(row)


def first_of_height(table, pairs, height):
    """The first of pairs that stands so high in the table."""
    return [pair for pair in pairs if table[pair] == height][0]


def pairs_of(kind, u, v):
    """The ascending list of the pairs of u and v."""
    behind_u = comes(kind, u)
    behind_v = comes(kind, v)
    return [(s, t) for s in behind_u for t in behind_v]


def joint_steps(kind, pair):
    """The steps that lead from the pair, as pairs (step, where it leads)."""
    s, t = pair
    both = [
        (("both", i, j), (one, two))
        for i, (answer, one) in enumerate(kind.looks[s])
        for j, (other, two) in enumerate(kind.looks[t]) if answer == other]
    first = [(("first", goal), (goal, t)) for goal in kind.drifts[s]]
    second = [(("second", goal), (s, goal)) for goal in kind.drifts[t]]
    return both + first + second


def falls(kind, pair, table):
    """Whether joint looks from the pair lead to less in the table, and drifts to no more."""
    return all([
        table[goal] < table[pair] or (step[0] != "both" and table[goal] == table[pair])
        for step, goal in joint_steps(kind, pair)])


def joint_goals(kind):
    """For each pair a dict from the pairs to which drifts and then one joint look can lead, to an answer for it."""
    ahead = [answers_ahead(kind, standing) for standing in range(kind.size)]
    return {
        (s, t): {
            (one, two): answer
            for answer, one in ahead[s] for other, two in ahead[t] if answer == other}
        for s in range(kind.size) for t in range(kind.size)}


def answers_ahead(kind, standing):
    """What drifts and then one look can answer and lead to, as pairs (answer, standing)."""
    return [outcome for place in closed([standing], kind.drifts) for outcome in kind.looks[place]]


def height_table(kind):
    """The height of each pair of the kind that has no endless joint looks ahead."""
    return longest_paths(joint_goals(kind))
