"""Wishes: which rollings of a menu bring a spot to some faces, and leave others bare.

Here faces are told by their places among all faces of the shop, a stand is held
as a tuple (places, left), and a deed of the menu as a tuple (near, beats).
"""

from wetmarks.checks import check_at_most, check_lot, check_menu, check_shop_face
from wetmarks.checks import is_shop_face, is_tuple_of
from wetmarks.errors import TooMany
from wetmarks.rollings import neighbours
from wetmarks.rows import spread
from wetmarks.wholes import is_below

# A spot is wet for at most so many beats.
MOST_WET = 1000
# Picks have at most so many deeds where all of them are tried.
MOST_PICKS = 4
# So many stands, at most, are told.
MOST_STANDS = 500


def fewest(shop, menu, face, wet, must, bare):
    """The picks of fewest deeds behind which a wish comes true, or all stands where it never does."""
    _check_wish(shop, menu, face, wet, must, bare)
    faces = shop.faces()
    deeds = _deeds_of(shop, menu)
    wish = (_places_of(shop, must), _places_of(shop, bare))
    first = _first_stand(shop, face, wet)
    if _is_inked(first, wish):
        return ("none", [])
    if _is_true(first, wish):
        return ("picks", [], [])
    known = {first: True}
    begun = [(first, [])]
    while begun:
        # Whatever comes of them, all that are known are to be told.
        if len(known) > MOST_STANDS:
            raise TooMany(MOST_STANDS)
        found = _further(deeds, known, wish, begun)
        for stand, picks in found:
            if _is_true(stand, wish):
                return ("picks", picks, _told_stands(faces, known))
        for stand, _ in found:
            known[stand] = True
        begun = found
    return ("none", _told_stands(faces, known))


def is_none(shop, menu, face, wet, must, bare, thing):
    """Whether a thing, whatever it is, are stands that show that a wish never comes true."""
    _check_wish(shop, menu, face, wet, must, bare)
    if not _are_stands(shop, thing):
        return False
    deeds = _deeds_of(shop, menu)
    wish = (_places_of(shop, must), _places_of(shop, bare))
    stands = {(tuple(_places_of(shop, shown)), left): True for shown, left in thing}
    first = _first_stand(shop, face, wet)
    if first not in stands and not _is_inked(first, wish):
        return False
    for stand in stands:
        if not _is_inked(stand, wish):
            behind = [_behind(deed, stand) for deed in deeds]
            led = [other in stands or _is_inked(other, wish) for other in behind]
            if _is_true(stand, wish) or not all(led):
                return False
    return True


def shown_by(shop, menu, face, wet, lot, most):
    """All picks of at most so many deeds that show just a lot; where there are none, why."""
    check_menu(shop, menu)
    check_shop_face(shop, face)
    check_at_most(MOST_WET, wet)
    check_lot(shop, (), lot)
    check_at_most(MOST_PICKS, most)
    deeds = _deeds_of(shop, menu)
    wanted = _places_of(shop, lot)
    first = _first_stand(shop, face, wet)
    tried = _tried(deeds, first, wanted, most)
    found = [picks for picks, (places, _) in tried if list(places) == wanted]
    if found:
        return ("picks", found)
    return ("none", _tree(shop.faces(), deeds, first, wanted, most))


def _check_wish(shop, menu, face, wet, must, bare):
    """Refuse what is no menu, no face, no wetness and no wish, in this order."""
    check_menu(shop, menu)
    check_shop_face(shop, face)
    check_at_most(MOST_WET, wet)
    check_lot(shop, (), must)
    check_lot(shop, must, bare)


def _deeds_of(shop, menu):
    """The deeds of a menu."""
    places = {face: k for k, face in enumerate(shop.faces())}
    deeds = []
    for _, drum, plies, beats in menu:
        near = neighbours(shop, drum, plies)
        deeds.append(({places[face]: [places[other] for other in near[face]] for face in near}, beats))
    return deeds


def _places_of(shop, faces):
    """The rising list of the places of some faces."""
    inside = {face: True for face in faces}
    return [k for k, face in enumerate(shop.faces()) if face in inside]


def _first_stand(shop, face, wet):
    """The stand ahead of all deeds."""
    return (tuple(_places_of(shop, [face])), wet)


def _behind(deed, stand):
    """The stand to which a deed leads one."""
    near, beats = deed
    places, left = stand
    inked = {place: (0, None) for place in places}
    spread(inked, near, 0, min(beats, left))
    return (tuple(sorted(inked)), max(0, left - beats))


def _is_inked(stand, wish):
    """Whether a face shows that is to stay bare."""
    shown = {place: True for place in stand[0]}
    return any([place in shown for place in wish[1]])


def _is_true(stand, wish):
    """Whether all faces show that must."""
    shown = {place: True for place in stand[0]}
    return all([place in shown for place in wish[0]])


def _further(deeds, known, wish, begun):
    """The new stands, with their least picks, to which one more deed leads, the least picks ahead."""
    found = {}
    for stand, picks in begun:
        for k, deed in enumerate(deeds):
            new = _behind(deed, stand)
            if new not in known and new not in found and not _is_inked(new, wish):
                found[new] = picks + [k]
    return [(stand, found[stand]) for stand in found]


def _told_stands(faces, stands):
    """Stands as they are told."""
    return [([faces[place] for place in places], left) for places, left in sorted(stands)]


def _are_stands(shop, thing):
    """Whether a thing, whatever it is, is a sorted list of stands, no two alike."""
    if not isinstance(thing, list):
        return False
    told = [_is_stand(shop, stand) for stand in thing]
    return all(told) and _rises(thing)


def _is_stand(shop, thing):
    """Whether a thing, whatever it is, is a stand."""
    if not is_tuple_of(2, thing):
        return False
    faces, left = thing
    if not isinstance(faces, list) or not is_below(MOST_WET + 1, left):
        return False
    told = [is_shop_face(shop, face) for face in faces]
    return all(told) and _rises(faces)


def _rises(things):
    """Whether each thing is less than the one behind it."""
    return all([things[k - 1] < things[k] for k in range(1, len(things))])


def _beyond(stand, wanted):
    """The places that show and are not wanted."""
    inside = {place: True for place in wanted}
    return [place for place in stand[0] if place not in inside]


def _tried(deeds, first, wanted, most):
    """All picks of at most so many deeds, with their stands, but for those that begin with what inks."""
    begun = [([], first)]
    tried = list(begun)
    for _ in range(most):
        begun = [
            (picks + [k], _behind(deed, stand))
            for picks, stand in begun if not _beyond(stand, wanted)
            for k, deed in enumerate(deeds)
        ]
        tried.extend(begun)
    return tried


def _tree(faces, deeds, stand, wanted, most):
    """Why no picks of at most so many more deeds show just what is wanted."""
    beyond = _beyond(stand, wanted)
    if beyond:
        return ("inks", faces[beyond[0]])
    shown = {place: True for place in stand[0]}
    lacking = [place for place in wanted if place not in shown]
    trees = []
    if most > 0:
        trees = [_tree(faces, deeds, _behind(deed, stand), wanted, most - 1) for deed in deeds]
    return ("lacks", faces[lacking[0]], trees)
