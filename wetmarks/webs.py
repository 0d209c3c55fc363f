"""Webs: what spots, put on all faces at the beginning of a row, show behind it.

Here faces are told by their places among all faces of the shop, and what a face
has by a number whose bit k says that it has the spot that was put on face k.
"""

from wetmarks.checks import check_beats, check_row, check_shop_face
from wetmarks.rows import course_of, firsts, inked_by, last_moment, spread


def web(shop, row, wet):
    """For each face all faces that show a spot of a wetness put on it at the beginning."""
    check_row(shop, row)
    check_beats(wet)
    faces = shop.faces()
    has = _fresh(faces)
    _carry(_numbered(faces, course_of(shop, row)), has, wet)
    return [
        (face, [faces[other] for other, spots in enumerate(has) if spots >> number & 1])
        for number, face in enumerate(faces)
    ]


def times(shop, row, face):
    """Each face that a spot put on a face ever comes to within the row, and its first moment."""
    check_row(shop, row)
    check_shop_face(shop, face)
    return firsts(inked_by(course_of(shop, row), (face, 0, last_moment(row))))


def grows(shop, row):
    """All wetnesses at which the web is greater than at one less."""
    check_row(shop, row)
    return [moment for moment, _ in _history(shop, row)]


def parted(shop, one, other):
    """Where the webs of two rows are first unlike, None for alike rows."""
    check_row(shop, one)
    check_row(shop, other)
    faces = shop.faces()
    mine = _fresh(faces)
    theirs = _fresh(faces)
    my_news = {moment: news for moment, news in _history(shop, one)}
    their_news = {moment: news for moment, news in _history(shop, other)}
    for moment in sorted(set(list(my_news) + list(their_news))):
        _take(mine, my_news.get(moment, {}))
        _take(theirs, their_news.get(moment, {}))
        if mine != theirs:
            put, shown = _least_unlike(mine, theirs)
            return ("wet", moment, faces[put], faces[shown])
    return None


def ever(shop, row, face):
    """Each face that a spot comes to if the row is done for ever, and its first moment."""
    check_row(shop, row)
    check_shop_face(shop, face)
    course = course_of(shop, row)
    inked = {tuple(face): (0, None)}
    begin = many = 0
    # A repeat that brings nothing new leaves all as it was, and so do all behind it.
    while len(inked) > many:
        many = len(inked)
        for start, end, near in course:
            spread(inked, near, begin + start, begin + end)
        begin += last_moment(row)
    return firsts(inked)


def stands(shop, row):
    """The least many repeats behind which nothing new comes, wherever a spot was put."""
    check_row(shop, row)
    faces = shop.faces()
    course = _numbered(faces, course_of(shop, row))
    has = _fresh(faces)
    repeats = 0
    while _carry(course, has, last_moment(row)):
        repeats += 1
    return max(1, repeats)


def _fresh(faces):
    """What each face has where its own spot was just put on it."""
    return [1 << k for k in range(len(faces))]


def _numbered(faces, course):
    """A course in which faces are told by their places."""
    places = {face: k for k, face in enumerate(faces)}
    return [
        (start, end, [(places[face], [places[other] for other in near[face]]) for face in near])
        for start, end, near in course
    ]


def _history(shop, row):
    """All news of a row, as _carry tells them."""
    faces = shop.faces()
    return _carry(_numbered(faces, course_of(shop, row)), _fresh(faces), last_moment(row))


def _carry(course, has, dry):
    """Carry all spots through a course, till the moment at which they are dry.

    It tells a tuple (moment, news) for each moment at which some faces have
    more than one beat before: what these then have.
    """
    told = []
    for start, end, near in course:
        for moment in range(start + 1, min(end, dry) + 1):
            news = _news(near, has)
            # Where one beat brings nothing, the later ones of the deed don't either.
            if not news:
                break
            _take(has, news)
            told.append((moment, news))
    return told


def _news(near, has):
    """What faces have a beat later, of those that then have more."""
    news = {}
    for face, others in near:
        spots = has[face]
        for other in others:
            spots = spots | has[other]
        if spots != has[face]:
            news[face] = spots
    return news


def _take(has, news):
    """Let faces have what the news tell."""
    for face in news:
        has[face] = news[face]


def _least_unlike(mine, theirs):
    """The least spot that not the same faces have, and the least face that has it in one alone."""
    unlike = [one ^ other for one, other in zip(mine, theirs)]
    # Of a number and its negative the least bit alone is set in both.
    return min([((bits & -bits).bit_length() - 1, face) for face, bits in enumerate(unlike) if bits])
