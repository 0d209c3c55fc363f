"""Rows of deeds, and what spots show behind them.

A row's course are its deeds that have beats, each as a tuple (start, end, near):
the moments between which it lies so, and the faces that touch each face.
"""

from wetmarks.checks import check_row, check_shop_face, check_spot, check_spots, is_shop_face, is_tuple_of
from wetmarks.rollings import neighbours
from wetmarks.wholes import is_from


def plain(shop, row):
    """The row without deeds of no beats, and neighbours that are alike put together."""
    check_row(shop, row)
    told = []
    for deed in row:
        beats = deed[-1]
        if beats == 0:
            continue
        if told and told[-1][:-1] == deed[:-1]:
            beats = beats + told.pop()[-1]
        told.append(_lasting(deed, beats))
    return told


def shows(shop, row, spot):
    """Each face that shows a spot behind the row, and the first moment at which it has it."""
    check_row(shop, row)
    check_spot(shop, last_moment(row), spot)
    return firsts(inked_by(course_of(shop, row), spot))


def marks(shop, row, spots):
    """Each face that shows some spots behind the row, and the places of these in the list."""
    numbers = _numbers(shop, row, spots)
    return sorted([(face, numbers[face]) for face in numbers])


def bare(shop, row, spots):
    """All faces that show none of the spots behind the row, sorted."""
    numbers = _numbers(shop, row, spots)
    return [face for face in shop.faces() if face not in numbers]


def way(shop, row, spot, face):
    """A way by which a spot comes to a face the soonest, None where it never does."""
    check_row(shop, row)
    check_spot(shop, last_moment(row), spot)
    check_shop_face(shop, face)
    inked = inked_by(course_of(shop, row), spot)
    if face not in inked:
        return None
    back = []
    one = tuple(face)
    while one is not None:
        moment, ahead = inked[one]
        back.append((one, moment))
        one = ahead
    return back[::-1]


def is_way(shop, row, spot, face, thing):
    """Whether a thing, whatever it is, is a way from a spot to a face."""
    check_row(shop, row)
    check_spot(shop, last_moment(row), spot)
    check_shop_face(shop, face)
    if not is_dated(shop, thing) or len(thing) == 0:
        return False
    start, moment, wet = spot
    if thing[0] != (start, moment) or thing[-1][0] != face:
        return False
    last = min(moment + wet, last_moment(row))
    course = course_of(shop, row)
    steps = [is_step(course, last, thing[k - 1], thing[k]) for k in range(1, len(thing))]
    return all(steps)


def shuts_off(shop, row, spot, thing):
    """Whether a thing, whatever it is, are walls of a spot."""
    check_row(shop, row)
    check_spot(shop, last_moment(row), spot)
    if not is_dated(shop, thing):
        return False
    inside = {face: moment for face, moment in thing}
    if len(inside) < len(thing):
        return False
    face, put, wet = spot
    if face not in inside or inside[face] > put:
        return False
    course = course_of(shop, row)
    held = [_holds(inside, near, max(start, put), min(end, put + wet)) for start, end, near in course]
    return all(held)


def last_moment(row):
    """The moment at which a row ends: the number of all its beats."""
    return sum([deed[-1] for deed in row])


def course_of(shop, row):
    """The course of a row."""
    course = []
    start = 0
    for deed in row:
        end = start + deed[-1]
        if end > start:
            near = {} if deed[0] == "open" else neighbours(shop, deed[1], deed[2])
            course.append((start, end, near))
        start = end
    return course


def inked_by(course, spot):
    """Each face that ever has a spot, with a tuple: the first moment, and the face ahead.

    The face ahead is the one from which the ink came, None of the spot's own.
    """
    face, moment, wet = spot
    inked = {tuple(face): (moment, None)}
    for start, end, near in course:
        spread(inked, near, max(start, moment), min(end, moment + wet))
    return inked


def spread(inked, near, start, end):
    """Let ink go on from all faces that have it, from one moment to another."""
    line = [face for face in inked if face in near]
    moment = start
    # However many beats there are, ink that comes to nothing new stays where it is.
    while line and moment < end:
        moment += 1
        line = newly_inked(inked, near, line, moment)


def newly_inked(inked, near, line, moment):
    """The faces to which ink comes at a moment from a line of faces, and note them."""
    new = []
    for face in line:
        for other in near[face]:
            if other not in inked:
                inked[other] = (moment, face)
                new.append(other)
    return new


def firsts(inked):
    """Each face that has ink and the first moment at which it has it, sorted."""
    return sorted([(face, inked[face][0]) for face in inked])


def is_dated(shop, thing):
    """Whether a thing, whatever it is, is a list of faces with moments."""
    if not isinstance(thing, list):
        return False
    dated = [
        is_tuple_of(2, pair) and is_shop_face(shop, pair[0]) and is_from(0, pair[1])
        for pair in thing
    ]
    return all(dated)


def is_step(course, last, one, other):
    """Whether of two faces with moments the other may follow the one on a way."""
    face, moment = one
    to, then = other
    return moment < then <= last and to in _touched(course, then - 1, face)


def _lasting(deed, beats):
    """A new deed, alike but for its beats."""
    if deed[0] == "open":
        return ("open", beats)
    _, drum, plies, _ = deed
    return ("roll", drum, [(strip, end, side) for strip, end, side in plies], beats)


def _numbers(shop, row, spots):
    """The places in the list of the spots that a face shows, by the face."""
    check_row(shop, row)
    check_spots(shop, last_moment(row), spots)
    course = course_of(shop, row)
    numbers = {}
    for number, spot in enumerate(spots):
        for face in inked_by(course, spot):
            numbers.setdefault(face, []).append(number)
    return numbers


def _touched(course, beat, face):
    """The faces that touch a face in a beat."""
    for start, end, near in course:
        if start <= beat < end:
            return near.get(face, [])
    return []


def _holds(inside, near, start, end):
    """Whether no ink gets out of a list of faces with moments, nor is ahead of these."""
    for face in inside:
        # What holds in the first of the beats holds in the later ones, too.
        beat = max(start, inside[face])
        if beat < end:
            for other in near.get(face, []):
                if other not in inside or inside[other] > beat + 1:
                    return False
    return True
