"""Webs: what spots, put on all faces at the beginning of a row, show behind it."""

from wetmarks.carrying import behind, carry, fresh, histories, history, least_unlike, numbered, take
from wetmarks.checks import check_beats, check_row, check_shop_face
from wetmarks.rows import course_of, firsts, inked_by, last_moment, spread


def web(shop, row, wet):
    """For each face all faces that show a spot of a wetness put on it at the beginning."""
    check_row(shop, row)
    check_beats(wet)
    faces = shop.faces()
    has = behind(shop, row, wet)
    return [
        (face, [faces[other] for other, spots in enumerate(has) if spots >> number & 1])
        for number, face in enumerate(faces)
    ]


def times(shop, row, face):
    """Each face that a spot put on a face ever comes to within the row, and its first moment."""
    check_row(shop, row)
    check_shop_face(shop, face)
    return firsts(inked_by(course_of(shop, row), (face, 0, last_moment(row))))


def grows(shop, row):
    """All wetnesses at which the web is greater than at one less."""
    check_row(shop, row)
    return [moment for moment, _ in history(shop, row)]


def parted(shop, one, other):
    """Where the webs of two rows are first unlike, None for alike rows."""
    check_row(shop, one)
    check_row(shop, other)
    faces = shop.faces()
    mine = fresh(faces)
    theirs = fresh(faces)
    for moment, my_news, their_news in histories(shop, one, other):
        take(mine, my_news)
        take(theirs, their_news)
        if mine != theirs:
            put, shown = least_unlike(mine, theirs)
            return ("wet", moment, faces[put], faces[shown])
    return None


def ever(shop, row, face):
    """Each face that a spot comes to if the row is done for ever, and its first moment."""
    check_row(shop, row)
    check_shop_face(shop, face)
    course = course_of(shop, row)
    inked = {tuple(face): (0, None)}
    begin = many = 0
    # A repeat that brings nothing new leaves all as it was, and so do all behind it.
    while len(inked) > many:
        many = len(inked)
        for start, end, near in course:
            spread(inked, near, begin + start, begin + end)
        begin += last_moment(row)
    return firsts(inked)


def stands(shop, row):
    """The least many repeats behind which nothing new comes, wherever a spot was put."""
    check_row(shop, row)
    faces = shop.faces()
    course = numbered(faces, course_of(shop, row))
    has = fresh(faces)
    repeats = 0
    while carry(course, has, last_moment(row)):
        repeats += 1
    return max(1, repeats)
