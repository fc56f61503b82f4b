"""Fits: for each point of a graph a point of another one, such that joined points have joined ones."""

from lookspoil.graphs import (
    all_points, folds_of, greatest_clique, left_of, part_of, parts_of, points_of)


def least_fit(source, target):
    """The least list that is a fit of source in target, or None.

    In the least one no point stands where a less one that is joined to as
    much would do, nor ahead of its twin, as each of both could stand for the
    other one: so nothing of the kind is tried.
    """
    elder = [[one for one in range(two) if are_twins(source, one, two)] for two in range(len(source))]
    less = [[one for one in range(two) if are_twins(target, one, two)] for two in range(len(target))]
    waiting = [([], [worth_using(target)] * len(source))]
    while waiting:
        fit, allowed = waiting.pop()
        at = len(fit)
        if at == len(source):
            return fit
        least = max([fit[one] for one in elder[at]], default=0)
        for point in points_of(allowed[at])[::-1]:
            if point >= least and (point in fit or all([one in fit for one in less[point]])):
                left = allowed_behind(source, target, allowed, at, point)
                if 0 not in left:
                    waiting.append((fit + [point], left))
    return None


def are_twins(graph, one, two):
    """Whether two points are joined to the same ones, apart from each other."""
    both = 1 << one | 1 << two
    return (graph[one] & ~both) == (graph[two] & ~both)


def worth_using(graph):
    """The points, as bits, that are joined to more, or others, than any less one."""
    worth = [
        point for point, joined in enumerate(graph)
        if not any([(joined & ~other) == 0 for other in graph[:point]])]
    return sum([1 << point for point in worth])


def allowed_behind(source, target, allowed, at, point):
    """What is allowed for each point of source when the one numbered at has the point; as bits."""
    return [
        bits & target[point] if source[at] >> other & 1 and other > at else bits
        for other, bits in enumerate(allowed)]


def some_fit(source, target):
    """Some fit of source in target, a list, or None.

    What can be folded into another point has the same as that, and nothing
    has what can be folded. Each part of the others is fitted on its own.
    """
    folds = folds_of(source)
    left = left_of(source, folds)
    core = part_of(source, left)
    goals = left_of(target, folds_of(target))
    goals = sorted(goals, key=lambda point: -len(points_of(target[point])))
    fit = [None] * len(source)
    for part in parts_of(core):
        found = fit_of_part(part_of(core, part), part_of(target, goals))
        if found is None:
            return None
        for number, point in zip(part, found):
            fit[left[number]] = goals[point]
    for point, other in folds[::-1]:
        fit[point] = fit[other]
    return fit


def fit_of_part(source, target):
    """Some fit of source, in which all hangs together; if all is joined to all, this is but to find a clique."""
    needed = greatest_clique(source)
    clique = greatest_clique(target)
    if len(needed) > len(clique):
        return None
    if len(needed) == len(source):
        return clique[:len(needed)]
    points = by_joins(source, needed)
    found = least_fit(part_of(source, points), target)
    if found is None:
        return None
    told = dict(zip(points, found))
    return [told[point] for point in range(len(source))]


def by_joins(graph, first):
    """All points, those of first ahead, then always the one that is joined to the most points ahead."""
    points = list(first)
    while len(points) < len(graph):
        ahead = sum([1 << point for point in points])
        left = points_of(all_points(graph) & ~ahead)
        points.append(max(left, key=lambda point: len(points_of(graph[point] & ahead))))
    return points
