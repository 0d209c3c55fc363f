"""All spots of a shop carried through a row at once, each put on its face at the beginning.

Here faces are told by their places among all faces of the shop, and what a face
has by a number whose bit k says that it has the spot that was put on face k.
"""

from wetmarks.rows import course_of, last_moment


def fresh(faces):
    """What each face has where its own spot was just put on it."""
    return [1 << k for k in range(len(faces))]


def numbered(faces, course):
    """A course in which faces are told by their places."""
    places = {face: k for k, face in enumerate(faces)}
    return [
        (start, end, [(places[face], [places[other] for other in near[face]]) for face in near])
        for start, end, near in course
    ]


def behind(shop, row, wet):
    """What each face has behind a row, of spots of a wetness."""
    faces = shop.faces()
    has = fresh(faces)
    carry(numbered(faces, course_of(shop, row)), has, wet)
    return has


def history(shop, row):
    """All news of a row, as carry tells them."""
    faces = shop.faces()
    return carry(numbered(faces, course_of(shop, row)), fresh(faces), last_moment(row))


def histories(shop, one, other):
    """A tuple (moment, news, news) for each moment at which one of two rows has news."""
    mine = {moment: news for moment, news in history(shop, one)}
    theirs = {moment: news for moment, news in history(shop, other)}
    return [
        (moment, mine.get(moment, {}), theirs.get(moment, {}))
        for moment in sorted(set(list(mine) + list(theirs)))
    ]


def carry(course, has, dry):
    """Carry all spots through a course, till the moment at which they are dry.

    It tells a tuple (moment, news) for each moment at which some faces have
    more than one beat before: what these then have.
    """
    told = []
    for start, end, near in course:
        for moment in range(start + 1, min(end, dry) + 1):
            news = _news(near, has)
            # Where one beat brings nothing, the later ones of the deed don't either.
            if not news:
                break
            take(has, news)
            told.append((moment, news))
    return told


def take(has, news):
    """Let faces have what the news tell."""
    for face in news:
        has[face] = news[face]


def least_unlike(mine, theirs):
    """The least spot that not the same faces have, and the least face that has it in one alone."""
    unlike = [one ^ other for one, other in zip(mine, theirs)]
    # Of a number and its negative the least bit alone is set in both.
    return min([((bits & -bits).bit_length() - 1, face) for face, bits in enumerate(unlike) if bits])


def _news(near, has):
    """What faces have a beat later, of those that then have more."""
    news = {}
    for face, others in near:
        spots = has[face]
        for other in others:
            spots = spots | has[other]
        if spots != has[face]:
            news[face] = spots
    return news
