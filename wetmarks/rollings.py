"""Rollings: plies of strips laid round a drum of a shop, and what so touches what."""

from wetmarks.checks import check_number, check_plies, check_shop_face
from wetmarks.gaps import beneath


def laid(shop, plies):
    """For each place of a roll the inward and the outward faces there, the innermost ahead."""
    check_plies(shop, plies)
    return _layers(shop, plies)


def touching(shop, drum, plies):
    """All pairs of faces that touch, the lesser face ahead, sorted."""
    check_number(shop, drum)
    check_plies(shop, plies)
    return sorted([tuple(sorted(pair)) for pair in _pairs(shop, drum, plies)])


def trees(shop, drum, plies):
    """What hangs together by touches: each time all faces, and how far apart two of them are."""
    check_number(shop, drum)
    check_plies(shop, plies)
    near = neighbours(shop, drum, plies)
    seen = set()
    told = []
    for face in sorted(near):
        if face not in seen:
            faces = sorted(_touches_from(near, face))
            told.append((faces, _width(near, face)))
            for other in faces:
                seen.add(other)
    return told


def apart(shop, drum, plies, one, other):
    """By how many touches two faces are apart, None where no touches lead there."""
    check_number(shop, drum)
    check_plies(shop, plies)
    check_shop_face(shop, one)
    check_shop_face(shop, other)
    return _touches_from(neighbours(shop, drum, plies), one).get(other)


def neighbours(shop, drum, plies):
    """The faces that touch each face, by the face; faces that touch nothing are left out."""
    near = {}
    for one, other in _pairs(shop, drum, plies):
        near.setdefault(one, []).append(other)
        near.setdefault(other, []).append(one)
    return near


def _layers(shop, plies):
    """What laid tells, of plies that are some."""
    cells = shop.strips()
    reach = max([cells[strip] for strip, _, _ in plies])
    return [
        [_faces_at(cells[ply[0]], ply, place) for ply in plies if cells[ply[0]] > place]
        for place in range(reach)
    ]


def _faces_at(cells, ply, place):
    """The inward and the outward face of a ply of so many cells at a place."""
    strip, end, side = ply
    cell = place if end == "head" else cells - 1 - place
    outward = "front" if side == "back" else "back"
    return (("strip", strip, cell, side), ("strip", strip, cell, outward))


def _pairs(shop, drum, plies):
    """All pairs of faces that touch, the inner face ahead."""
    layers = _layers(shop, plies)
    turns = shop.drums()[drum]
    found = []
    for place, layer in enumerate(layers):
        inward = layer[0][0]
        under = beneath(turns, place)
        if under is None:
            found.append((("drum", drum, place, "out"), inward))
        else:
            found.extend([(layers[low][-1][1], inward) for low in range(under[0], under[1] + 1)])
        found.extend([(layer[k - 1][1], layer[k][0]) for k in range(1, len(layer))])
    return found


def _touches_from(near, face):
    """By how many touches each face is apart from one, the nearest ahead, itself included."""
    far = {face: 0}
    line = [face]
    while line:
        further = []
        for one in line:
            for other in near.get(one, []):
                if other not in far:
                    far[other] = far[one] + 1
                    further.append(other)
        line = further
    return far


def _width(near, face):
    """The most touches by which two faces that hang together with a face are apart."""
    # In a tree, what is farthest from any face is one of two that are the farthest apart.
    end = list(_touches_from(near, face))[-1]
    far = _touches_from(near, end)
    return max(far.values())
