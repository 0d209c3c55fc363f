"""Shops: drums, strips, and the faces that these have."""

from wetmarks.checks import first_amiss
from wetmarks.drums import Drum
from wetmarks.errors import BadShop
from wetmarks.wholes import is_from

MOST_DRUMS = 3
MOST_STRIPS = 6
# A strip, and a drum's first turn, have at most so many cells.
MOST_CELLS = 40


class Shop:
    """Some drums, and some strips, of which it is told how many cells each has."""

    def __init__(self, drums, strips):
        at = first_amiss(1, MOST_DRUMS, _is_drum, drums)
        if at is not None:
            raise BadShop("drums", at)
        at = first_amiss(1, MOST_STRIPS, _is_strip, strips)
        if at is not None:
            raise BadShop("strips", at)
        self._drums = list(drums)
        self._strips = list(strips)

    def __eq__(self, other):
        return isinstance(other, Shop) and self._drums == other._drums and self._strips == other._strips

    def drums(self):
        """The drums, by their numbers."""
        return list(self._drums)

    def strips(self):
        """How many cells each strip has, by the strips' numbers."""
        return list(self._strips)

    def faces(self):
        """All faces of the drums and of the strips, sorted."""
        told = [
            ("drum", number, cell, "out")
            for number, drum in enumerate(self._drums)
            for cell in range(drum.first())
        ]
        return told + [
            ("strip", number, cell, side)
            for number, cells in enumerate(self._strips)
            for cell in range(cells)
            for side in ("back", "front")
        ]


def _is_drum(thing):
    """Whether a thing, whatever it is, is a drum that may stand in a shop."""
    return isinstance(thing, Drum) and thing.first() <= MOST_CELLS


def _is_strip(thing):
    """Whether a thing, whatever it is, is a number of cells that a strip may have."""
    return is_from(1, thing) and thing <= MOST_CELLS
