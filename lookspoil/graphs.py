"""Graphs: a list that has for each point, a number, those to which it is joined, as the bits of a number.

No point is joined to itself, and if one is joined to another one, that is joined to it.
"""

from lookspoil.pairs import alike_pairs


def apart_graph(kind):
    """The graph of the standings of the kind, joined where they are apart."""
    alike = alike_pairs(kind)
    every = [(u, v) for u in range(kind.size) for v in range(u + 1, kind.size)]
    return graph_of_pairs(kind.size, [pair for pair in every if pair not in alike])


def graph_of_pairs(many, pairs):
    """The graph of many points in which these pairs are joined."""
    graph = [0] * many
    for one, two in pairs:
        graph[one] = graph[one] | 1 << two
        graph[two] = graph[two] | 1 << one
    return graph


def joined_in_some(graphs):
    """The graph of all tuples of a point of each graph, in their order, joined where they are in some graph."""
    joined = [0]
    for graph in graphs:
        joined = [both_ways(len(joined), ahead, len(graph), here) for ahead in joined for here in graph]
    return joined


def both_ways(many, ahead, size, here):
    """The pairs of points of two graphs, with many points and with size, in which the one or the other one stands.

    ahead is that for the first point, here for the second one.
    """
    rows = [(1 << size) - 1 if ahead >> point & 1 else here for point in range(many)]
    return sum([row << size * point for point, row in enumerate(rows)])


def all_points(graph):
    """All points of the graph as bits."""
    return (1 << len(graph)) - 1


def points_of(bits):
    """The ascending list of the points."""
    return [point for point in range(bits.bit_length()) if bits >> point & 1]


def lowest(bits):
    """The least of the points, of which there are some."""
    return (bits & -bits).bit_length() - 1


def part_of(graph, points):
    """The graph of these points alone, a list, which get new numbers in this order."""
    return [
        sum([1 << number for number, point in enumerate(points) if graph[here] >> point & 1]) for here in points]


def other_way(graph):
    """The graph in which just those points are joined that are not joined in this one."""
    return [all_points(graph) & ~(joined | 1 << point) for point, joined in enumerate(graph)]


def parts_of(graph):
    """The points in ascending lists between which nothing is joined, as few in each as can be."""
    parts = []
    left = all_points(graph)
    while left:
        part = 0
        more = left & -left
        while more != part:
            part = more
            more = part | joined_to(graph, part)
        parts.append(points_of(part))
        left = left & ~part
    return parts


def joined_to(graph, points):
    """What is joined to some of points; both as bits."""
    joined = 0
    for point in points_of(points):
        joined = joined | graph[point]
    return joined


def folds_of(graph):
    """Pairs (point, other): what is joined to the point is joined to the other, but for the points of pairs ahead.

    So the points of all pairs can be left out wherever each two joined ones count.
    """
    folds = []
    left = all_points(graph)
    fold = next_fold(graph, left)
    while fold is not None:
        folds.append(fold)
        left = left & ~(1 << fold[0])
        fold = next_fold(graph, left)
    return folds


def next_fold(graph, left):
    """The first pair (point, other) as folds_of tells it of the points left, or None."""
    points = points_of(left)
    for point in points:
        for other in points:
            if point != other and (graph[point] & left & ~graph[other]) == 0:
                return point, other
    return None


def left_of(graph, folds):
    """The ascending list of the points that folds leave."""
    folded = [point for point, _ in folds]
    return [point for point in range(len(graph)) if point not in folded]


def greatest_clique(graph):
    """A list of as many points as possible of which each two are joined.

    Whatever is joined to all that is in another part need not be looked at with that.
    """
    points = left_of(graph, folds_of(graph))
    core = part_of(graph, points)
    clique = []
    for part in parts_of(other_way(core)):
        clique.extend([points[part[number]] for number in clique_of_part(part_of(core, part))])
    return clique


def clique_of_part(graph):
    """What greatest_clique tells, by trying all cliques that can grow larger than the best so far."""
    best = []
    waiting = [([], all_points(graph))]
    while waiting:
        clique, left = waiting.pop()
        if len(clique) > len(best):
            best = clique
        waiting.extend(larger_cliques(graph, clique, left, len(best)))
    return best


def larger_cliques(graph, clique, left, many):
    """The clique with one more point of left each, as pairs (clique, what is joined to all of it), the best ones last.

    Only those are told that may grow to more than many points: in a lot of
    points of which no two are joined there is one at most for each.
    """
    found = []
    lots = lots_of(graph, left)
    for number in range(len(lots), 0, -1):
        for point in lots[number - 1]:
            if len(clique) + number > many:
                left = left & ~(1 << point)
                found.append((clique + [point], left & graph[point]))
    return found[::-1]


def lots_of(graph, left):
    """The points of left, as bits, in ascending lists of points of which no two are joined."""
    lots = []
    while left:
        lot = []
        fitting = left
        while fitting:
            point = lowest(fitting)
            lot.append(point)
            left = left & ~(1 << point)
            fitting = fitting & ~(graph[point] | 1 << point)
        lots.append(lot)
    return lots
