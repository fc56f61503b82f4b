"""What looks tell of the names of a book, as long as nobody cuts.

What is known of one cell is a tuple with, for each name, the standings in
which the cell can be now if this is the name, as bits: 0 if the name is out.
The empty tuple is a cell at which nobody needs to look any more, for looks
there can answer alike for ever for all names that are not out.

What is known is a tuple of these for all cells; or, if one name alone is not
out, the point at which it is told.
"""

from lookspoil.kinds import answers_of
from lookspoil.making import told
from lookspoil.paths import longest_paths
from lookspoil.ways import after_row


class Watch:
    """What looks at one cell tell: where names can stand behind them, and how long they can go on alike."""

    def __init__(self, kind):
        self.answers = answers_of(kind)
        self._kind = kind
        self._behind = {}
        self._alike = {}

    def behind(self, known, answer):
        """What is known of the cell behind a look that answers so."""
        return tuple([self.bits_behind(standings, answer) for standings in known])

    def bits_behind(self, standings, answer):
        """Where the cell can be behind a look that answers so in one of standings; both as bits."""
        key = (standings, answer)
        if key not in self._behind:
            here = [at for at in range(self._kind.size) if standings >> at & 1]
            self._behind[key] = bits(after_row(self._kind, here, (answer,)))
        return self._behind[key]

    def most_alike(self, known):
        """How many answers can come, at most, that put no name out; None if they can for ever."""
        if known not in self._alike:
            goals = self.goals_alike(known)
            longest = longest_paths(goals)
            for point in goals:
                self._alike[point] = longest.get(point)
        return self._alike[known]

    def goals_alike(self, known):
        """For all that can be known behind answers that put no name out the list of what can be next."""
        goals = {}
        waiting = [known]
        while waiting:
            point = waiting.pop()
            if point not in goals:
                every = [self.behind(point, answer) for answer in self.answers]
                goals[point] = [goal for goal in every if zeros(goal) == zeros(point)]
                waiting.extend(goals[point])
        return goals


def bits(standings):
    """The standings of a list as the bits of a number."""
    return sum([1 << standing for standing in standings])


def zeros(known):
    """For each name whether it is out."""
    return [standings == 0 for standings in known]


def known_at_first(watches, standings):
    """What is known ahead of all looks.

    standings has, for each name, the list of the standings in which each cell
    can be: some for each cell, or none for any if the name is out.
    """
    known = tuple([tuple([bits(cells[cell]) for cells in standings]) for cell in range(len(watches))])
    return narrowed(watches, known, known[0])


def behind_look(watches, known, cell, answer):
    """What is known behind a look at the cell that answers so; None if it can't answer so."""
    there = watches[cell].behind(known[cell], answer)
    behind = known[:cell] + (there,) + known[cell + 1:]
    return behind if zeros(there) == zeros(known[cell]) else narrowed(watches, behind, there)


def narrowed(watches, known, there):
    """What is known when the names that are out at one cell, of which there is known, are out at all cells."""
    left = [name for name, standings in enumerate(there) if standings > 0]
    if len(left) == 0:
        return None
    if len(left) == 1:
        return told(left[0])
    cells = []
    for watch, standings in zip(watches, known):
        still = tuple([here if other > 0 else 0 for here, other in zip(standings, there)])
        cells.append(() if len(still) == 0 or watch.most_alike(still) is None else still)
    return tuple(cells)


def rank(watches, known):
    """A pair that grows with each look that a cell is worth: fewer names, or fewer answers that put none out."""
    looked = [(watch, there) for watch, there in zip(watches, known) if len(there) > 0]
    names = [standings for standings in looked[0][1] if standings > 0]
    return -len(names), -sum([watch.most_alike(there) for watch, there in looked])
