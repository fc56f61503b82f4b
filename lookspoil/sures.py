"""Sure kinds, where a standing tells all its answers; strangers who look, too."""

from lookspoil.errors import NotSure
from lookspoil.kinds import Kind
from lookspoil.ways import check_standing


def sure(kind):
    """Whether each look has one outcome, and there are no drifts."""
    return all([len(outcomes) == 1 for outcomes in kind.looks]) and all([len(goals) == 0 for goals in kind.drifts])


def class_of(kind, standing):
    """The least row of answers that looks from standing give again and again at last."""
    check_standing(kind, standing)
    check_sure(kind)
    trail = trail_from(kind, standing)
    turns = [kind.looks[place][0][0] for place in trail[round_begin(kind, trail):]]
    return least_turn(shortest_round(tuple(turns)))


def classes(kind):
    """The ascending list of the unlike classes of the standings."""
    return sorted({class_of(kind, standing) for standing in range(kind.size)})


def haunted(kind):
    """The kind that strangers look at, too, at any moment."""
    drifts = [
        tuple(sorted(set([goal for _, goal in outcomes] + list(goals))))
        for outcomes, goals in zip(kind.looks, kind.drifts)]
    return Kind(kind.looks, tuple(drifts), kind.puts)


def worn(kind, standing):
    """The least number of looks behind which the cell is where looks lead back to."""
    check_standing(kind, standing)
    check_sure(kind)
    return round_begin(kind, trail_from(kind, standing))


def check_sure(kind):
    """Raise NotSure for a kind that is not sure."""
    if not sure(kind):
        raise NotSure()


def only_goal(kind, standing):
    """Where a look leads in a sure kind."""
    return kind.looks[standing][0][1]


def trail_from(kind, standing):
    """The unlike standings to which looks lead one behind another, from standing on."""
    trail = [standing]
    while only_goal(kind, trail[-1]) not in trail:
        trail.append(only_goal(kind, trail[-1]))
    return trail


def round_begin(kind, trail):
    """The place in the trail to which a look at its end leads back."""
    return trail.index(only_goal(kind, trail[-1]))


def shortest_round(answers):
    """The least part of answers that gives them again and again."""
    size = len(answers)
    fits = [many for many in range(1, size + 1) if answers[:many] * (size // many) == answers]
    return answers[:fits[0]]


def least_turn(answers):
    """The least of the tuples that begin at some place of answers and go round."""
    return min([answers[at:] + answers[:at] for at in range(len(answers))])
