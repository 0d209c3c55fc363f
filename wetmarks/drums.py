"""Drums, and where the cells of a roll lie on their turns."""

from math import isqrt
from wetmarks.checks import check_cell, check_length, check_place, check_turn
from wetmarks.errors import BadDrum
from wetmarks.wholes import is_from

# First and step have at most fifteen figures.
TOO_GREAT = 10 ** 15


class Drum:
    """A drum whose first turn has first places, and each further turn step places more."""

    def __init__(self, first, step):
        if not is_from(1, first) or first >= TOO_GREAT:
            raise BadDrum("first")
        if not is_from(0, step) or step >= TOO_GREAT:
            raise BadDrum("step")
        self._first = first
        self._step = step

    def __eq__(self, other):
        return isinstance(other, Drum) and self._first == other._first and self._step == other._step

    def first(self):
        """How many places turn 0 has."""
        return self._first

    def step(self):
        """How many places more each further turn has."""
        return self._step

    def size(self, turn):
        """How many places a turn has."""
        check_turn(turn)
        return self._first + turn * self._step

    def begins(self, turn):
        """The cell of a roll that lies at place 0 of a turn."""
        check_turn(turn)
        return turn * self._first + self._step * (turn * (turn - 1) // 2)

    def where(self, cell):
        """The turn and the place on which a cell lies, and the turn's size."""
        check_cell(cell)
        turn = self._turn_of(cell)
        return (turn, cell - self.begins(turn), self.size(turn))

    def cell_at(self, turn, place):
        """The cell that lies at a place of a turn."""
        check_place(self.size(turn), place)
        return self.begins(turn) + place

    def filled(self, length):
        """The last turn of a roll of so many cells, and how many places of it are filled."""
        check_length(length)
        turn, place, _ = self.where(length - 1)
        return (turn, place + 1)

    def _turn_of(self, cell):
        """The greatest turn that begins at a cell or ahead of it."""
        if self._step == 0:
            return cell // self._first
        # A turn begins at the cell or ahead of it just where
        # step turn turn + slope turn is at most 2 cell: the greatest such turn
        # is the greater root, rounded down.
        slope = 2 * self._first - self._step
        root = isqrt(slope * slope + 8 * self._step * cell)
        return (root - slope) // (2 * self._step)
