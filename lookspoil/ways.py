"""Where looks and drifts can lead a cell."""

from lookspoil.checks import is_below, is_step, is_tuple
from lookspoil.errors import NoRow, NoStanding, NoStandings, NoWay
from lookspoil.kinds import ANSWERS

MOST_ANSWERS = 200


def comes(kind, standing):
    """The ascending list of the standings to which looks and drifts can lead from standing."""
    check_standing(kind, standing)
    return closed([standing], all_goals(kind))


def way_end(kind, standing, way):
    """The standing to which the way leads from standing."""
    check_standing(kind, standing)
    end = end_of_steps(all_steps(kind), standing, way)
    if end is None:
        raise NoWay()
    return end


def after_row(kind, standings, row):
    """The ascending list of the standings at which ways with just this row from standings can end."""
    if not are_standings(kind, standings):
        raise NoStandings()
    if not is_row(row):
        raise NoRow()
    here = closed(standings, kind.drifts)
    for answer in row:
        here = closed(goals_of_answer(kind, here, answer), kind.drifts)
    return here


def check_standing(kind, standing):
    """Raise NoStanding for what is no standing of the kind."""
    if not is_below(kind.size, standing):
        raise NoStanding()


def are_standings(kind, thing):
    """Whether thing is a list or tuple of standings of the kind."""
    return isinstance(thing, (list, tuple)) and all([is_below(kind.size, standing) for standing in thing])


def is_row(thing):
    """Whether thing is a row of answers that is not too long."""
    return is_tuple(0, MOST_ANSWERS, thing) and all([is_below(ANSWERS, answer) for answer in thing])


def closed(standings, goals):
    """The ascending list of standings and of all that goals, a table of each one's next, lead to from them."""
    found = {standing: True for standing in standings}
    left = list(found)
    while left:
        here = left.pop()
        for goal in goals[here]:
            if goal not in found:
                found[goal] = True
                left.append(goal)
    return sorted(found)


def all_goals(kind):
    """For each standing the list of those to which one look or one drift leads."""
    return [[goal for _, goal in outcomes] + list(drifts) for outcomes, drifts in zip(kind.looks, kind.drifts)]


def goals_of_answer(kind, standings, answer):
    """Where one look with this answer can lead from standings."""
    return [goal for standing in standings for told, goal in kind.looks[standing] if told == answer]


def all_steps(kind):
    """For each standing the list of the steps of ways there, as pairs (step, where it leads)."""
    return [steps_from(kind, standing) for standing in range(kind.size)]


def steps_from(kind, standing):
    """The steps of ways at one standing, as pairs (step, where it leads)."""
    looks = [(("look", number), goal) for number, (_, goal) in enumerate(kind.looks[standing])]
    return looks + [(("drift", goal), goal) for goal in kind.drifts[standing]]


def end_of_steps(steps, begin, thing):
    """Where thing leads from begin, if it is a tuple of steps of the table, one behind another; else None."""
    if not isinstance(thing, tuple):
        return None
    here = begin
    for step in thing:
        here = goal_of_step(steps[here], step)
        if here is None:
            return None
    return here


def goal_of_step(steps, thing):
    """Where thing leads, if it is one of steps, pairs (step, where it leads); else None."""
    if is_step(thing):
        for step, goal in steps:
            if step == thing:
                return goal
    return None
