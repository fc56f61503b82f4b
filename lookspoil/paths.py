"""Paths in a graph, which is told by a dict from each of its points to those that come next."""


def longest_paths(goals):
    """The number of steps of the longest path from each point that has no endless one ahead.

    A point gets its number when all that come next have theirs; those that
    lead round to themselves never do.
    """
    begins = {point: [] for point in goals}
    for point in goals:
        for goal in goals[point]:
            begins[goal].append(point)
    unknown = {point: len(goals[point]) for point in goals}
    ready = [point for point in goals if unknown[point] == 0]
    longest = {}
    while ready:
        point = ready.pop()
        longest[point] = max([longest[goal] + 1 for goal in goals[point]], default=0)
        for begin in begins[point]:
            unknown[begin] -= 1
            if unknown[begin] == 0:
                ready.append(begin)
    return longest
