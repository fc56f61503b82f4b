"""Benches: runs that are led move by move, and taken back."""

from lookspoil.checks import is_between
from lookspoil.errors import Ended, NoMove, NoNumber
from lookspoil.moves import answer_of, moves_from
from lookspoil.programs import told_at
from lookspoil.stores import check_layout
from lookspoil.ways import goal_of_step


class Bench:
    """A run of a program that is led."""

    def __init__(self, program, layout):
        check_layout(program.store, layout)
        self.place = 0
        self._program = program
        self._standings = layout
        # For each move that was made the move, and where the run was ahead of it.
        self._made = []

    def layout(self):
        """The layout as it is now."""
        return self._standings

    def trace(self):
        """The moves that were made and not taken back."""
        return tuple([move for move, _ in self._made])

    def moves(self):
        """The ascending list of the moves that can be made now."""
        return [move for move, _ in moves_from(self._program, (self.place, self._standings))]

    def do(self, move):
        """Make a move; the answer for a look, None otherwise."""
        if self.name() is not None:
            raise Ended()
        here = (self.place, self._standings)
        goal = goal_of_step(moves_from(self._program, here), move)
        if goal is None:
            raise NoMove()
        self._made.append((move, here))
        self.place, self._standings = goal
        return answer_of(self._program, here, move)

    def name(self):
        """The name that is told, None where the run has not ended."""
        return told_at(self._program, self.place)

    def back(self, many):
        """Take back the last moves."""
        if not is_between(1, len(self._made), many):
            raise NoNumber()
        self.place, self._standings = self._made[-many][1]
        self._made = self._made[:-many]

    def copy(self):
        """Another bench that is where this one is, and goes on apart."""
        other = Bench(self._program, self._standings)
        other.place = self.place
        other._made = list(self._made)
        return other

    def trying(self, action):
        """What action returns for this bench, on which everything is then put back."""
        place = self.place
        standings = self._standings
        made = list(self._made)
        try:
            return action(self)
        finally:
            self.place = place
            self._standings = standings
            self._made = made
