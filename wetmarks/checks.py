"""Refuses what is no turn, no place, no cell, no length, no face or no number of beats."""

from wetmarks.errors import NoBeats, NoCell, NoFace, NoPlace, NoTurn
from wetmarks.wholes import is_from


def check_turn(turn):
    """Refuse what is no turn of a drum."""
    if not is_from(0, turn):
        raise NoTurn(turn)


def check_place(size, place):
    """Refuse what is no place of a turn of so many places."""
    if not is_from(0, place) or place >= size:
        raise NoPlace(place)


def check_cell(cell):
    """Refuse what is no cell of any roll."""
    if not is_from(0, cell):
        raise NoCell(cell)


def check_length(length):
    """Refuse what is no number of cells of a roll."""
    if not is_from(1, length):
        raise NoCell(length)


def check_below(many, number):
    """Refuse what is no number of a cell, or of a sector, where there are so many."""
    if not is_from(0, number) or number >= many:
        raise NoCell(number)


def check_face(length, face):
    """Refuse what is no face of a roll of so many cells."""
    if not is_face(length, face):
        raise NoFace(face)


def is_face(length, thing):
    """Whether a thing, whatever it is, is a face of a roll of so many cells."""
    if not isinstance(thing, tuple) or len(thing) != 2:
        return False
    cell, side = thing
    if not is_from(0, cell) or cell >= length:
        return False
    # An object of another kind may claim to be equal to a side.
    return isinstance(side, str) and side in ("in", "out")


def check_beats(beats):
    """Refuse what is no number of beats."""
    if not is_from(0, beats):
        raise NoBeats(beats)
