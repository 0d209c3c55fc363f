"""Refuses what is none of what a function takes, and names it."""

from wetmarks.errors import BadDrum, BadMarks, BadMenu, BadPlies, BadRow, BadSpot
from wetmarks.errors import NoBeats, NoCell, NoFace, NoPlace, NoTurn
from wetmarks.wholes import is_below, is_from

MOST_PLIES = 3
MOST_DEEDS = 40
MOST_SPOTS = 40
MOST_ROLLINGS = 6
# A rolling of a menu has at most so many beats.
MOST_BEATS = 1000


def check_turn(turn):
    """Refuse what is no turn of a drum."""
    if not is_from(0, turn):
        raise NoTurn(turn)


def check_place(size, place):
    """Refuse what is no place of a turn of so many places."""
    if not is_below(size, place):
        raise NoPlace(place)


def check_cell(cell):
    """Refuse what is no cell of any roll."""
    if not is_from(0, cell):
        raise NoCell(cell)


def check_length(length):
    """Refuse what is no number of cells of a roll."""
    if not is_from(1, length):
        raise NoCell(length)


def check_below(many, number):
    """Refuse what is no number of a cell, or of a sector, where there are so many."""
    if not is_below(many, number):
        raise NoCell(number)


def check_face(length, face):
    """Refuse what is no face of a roll of so many cells."""
    if not is_face(length, face):
        raise NoFace(face)


def check_beats(beats):
    """Refuse what is no number of beats."""
    if not is_from(0, beats):
        raise NoBeats(beats)


def check_at_most(most, beats):
    """Refuse what is no whole number from 0 to most, where beats or deeds are counted."""
    if not is_below(most + 1, beats):
        raise NoBeats(beats)


def check_number(shop, drum):
    """Refuse what is no number of one of a shop's drums."""
    if not is_below(len(shop.drums()), drum):
        raise BadDrum("number")


def check_shop_face(shop, face):
    """Refuse what is no face of a shop."""
    if not is_shop_face(shop, face):
        raise NoFace(face)


def check_plies(shop, plies):
    """Refuse what are no plies of a shop's strips."""
    at = ply_amiss(shop, plies)
    if at is not None:
        raise BadPlies(at)


def check_row(shop, row):
    """Refuse what is no row of deeds of a shop."""
    at = first_amiss(0, MOST_DEEDS, lambda deed: is_deed(shop, deed), row)
    if at is not None:
        raise BadRow(at)


def check_deed(shop, at, deed):
    """Refuse what is no deed of a shop, handed in as the one at a place."""
    if not is_deed(shop, deed):
        raise BadRow(at)


def check_menu(shop, menu):
    """Refuse what is no menu of rollings of a shop."""
    at = first_amiss(1, MOST_ROLLINGS, lambda deed: is_rolling(shop, deed), menu)
    if at is not None:
        raise BadMenu(at)


def check_lot(shop, barred, lot):
    """Refuse what is no list of unlike faces of a shop, none of them among the barred ones."""
    at = face_amiss(shop, barred, lot)
    if at is not None:
        raise BadMarks(at)


def check_spot(shop, last, spot):
    """Refuse what is no spot of a shop, in a row with this last moment."""
    part = spot_amiss(shop, last, spot)
    if part is not None:
        raise BadSpot(part)


def check_spots(shop, last, spots):
    """Refuse what is no list of spots, then the first thing in it that is no spot."""
    if not is_listed(0, MOST_SPOTS, spots):
        raise BadSpot("spots")
    for spot in spots:
        check_spot(shop, last, spot)


def is_word(words, thing):
    """Whether a thing, whatever it is, is one of some words."""
    # An object of another kind may claim to be equal to a word.
    return isinstance(thing, str) and thing in words


def is_listed(least, most, thing):
    """Whether a thing, whatever it is, is a list of least to most things."""
    return isinstance(thing, list) and least <= len(thing) <= most


def is_tuple_of(many, thing):
    """Whether a thing, whatever it is, is a tuple of so many things."""
    return isinstance(thing, tuple) and len(thing) == many


def is_face(length, thing):
    """Whether a thing, whatever it is, is a face of a roll of so many cells."""
    if not is_tuple_of(2, thing):
        return False
    cell, side = thing
    return is_below(length, cell) and is_word(("in", "out"), side)


def is_shop_face(shop, thing):
    """Whether a thing, whatever it is, is a face of a shop."""
    if not is_tuple_of(4, thing):
        return False
    kind, number, cell, side = thing
    if is_word(("drum",), kind):
        cells = [drum.first() for drum in shop.drums()]
        sides = ("out",)
    elif is_word(("strip",), kind):
        cells = shop.strips()
        sides = ("back", "front")
    else:
        return False
    return is_below(len(cells), number) and is_below(cells[number], cell) and is_word(sides, side)


def is_ply(shop, thing):
    """Whether a thing, whatever it is, is a ply of one of a shop's strips."""
    if not is_tuple_of(3, thing):
        return False
    strip, end, side = thing
    if not is_below(len(shop.strips()), strip):
        return False
    return is_word(("head", "tail"), end) and is_word(("back", "front"), side)


def is_deed(shop, thing):
    """Whether a thing, whatever it is, is a deed of a shop."""
    if is_tuple_of(2, thing):
        return is_word(("open",), thing[0]) and is_from(0, thing[1])
    if not is_tuple_of(4, thing):
        return False
    kind, drum, plies, beats = thing
    if not is_word(("roll",), kind) or not is_below(len(shop.drums()), drum):
        return False
    return ply_amiss(shop, plies) is None and is_from(0, beats)


def is_rolling(shop, thing):
    """Whether a thing, whatever it is, is a deed that may stand in a menu."""
    return is_tuple_of(4, thing) and is_deed(shop, thing) and 1 <= thing[3] <= MOST_BEATS


def first_amiss(least, most, fits, things):
    """The place of the first thing that doesn't fit, None where all do.

    It is -1 for what is no list of least to most things.
    """
    if not is_listed(least, most, things):
        return -1
    for at, thing in enumerate(things):
        if not fits(thing):
            return at
    return None


def ply_amiss(shop, plies):
    """The place of the first thing that may not stand in plies, as first_amiss tells it."""
    at = first_amiss(1, MOST_PLIES, lambda ply: is_ply(shop, ply), plies)
    if at == -1:
        return at
    # A strip that stands there twice may be amiss ahead of that place.
    taken = set()
    for place, ply in enumerate(plies[:at]):
        if ply[0] in taken:
            return place
        taken.add(ply[0])
    return at


def face_amiss(shop, barred, lot):
    """The place of the first thing that may not stand in a lot, as first_amiss tells it."""
    if not isinstance(lot, list):
        return -1
    taken = set(barred)
    for at, face in enumerate(lot):
        if not is_shop_face(shop, face) or face in taken:
            return at
        taken.add(face)
    return None


def spot_amiss(shop, last, spot):
    """Which part of a spot is amiss in a row with this last moment, None where none is."""
    if not is_tuple_of(3, spot):
        return "spot"
    face, moment, wet = spot
    if not is_shop_face(shop, face):
        return "face"
    if not is_below(last + 1, moment):
        return "moment"
    if not is_from(0, wet):
        return "wet"
    return None
