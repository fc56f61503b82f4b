"""Programs that are made from points and what is to be done at each."""

from lookspoil.programs import program_of_any_size


def told(name):
    """The point at which a program that is made tells the name."""
    return ("told", name)


def is_told(point):
    """Whether a name is told at the point."""
    return point[0] == "told"


def program_of_points(store, points, names):
    """A program with a look for each of points, in order, and then a tell for each of the names 0 to names - 1.

    points is a dict from them to pairs: a cell, and the list of the pairs of
    an answer and the point, later in the order, at which to go on.
    """
    places = {}
    for point in list(points) + [told(name) for name in range(names)]:
        places[point] = len(places)
    looks = [
        ("look", cell, tuple([(answer, places[goal]) for answer, goal in goals]))
        for cell, goals in points.values()]
    return program_of_any_size(store, tuple(looks + [("tell", name) for name in range(names)]))
