"""Orders: when it matters which of several deeds comes first."""

from wetmarks.carrying import behind, carry, fresh, histories, least_unlike, numbered, take
from wetmarks.checks import check_beats, check_deed, check_row
from wetmarks.errors import TooMany
from wetmarks.rows import course_of

# So many deeds, at most, are put in all their orders.
MOST_ORDERED = 5


def matters(shop, one, other):
    """The stretches of wetness at which it matters which of two deeds comes first."""
    check_deed(shop, 0, one)
    check_deed(shop, 1, other)
    mine = fresh(shop.faces())
    theirs = fresh(shop.faces())
    told = []
    low = None
    for moment, my_news, their_news in histories(shop, [one, other], [other, one]):
        take(mine, my_news)
        take(theirs, their_news)
        if mine != theirs and low is None:
            low = moment
        elif mine == theirs and low is not None:
            told.append((low, moment - 1))
            low = None
    if low is not None:
        told.append((low, None))
    return told


def parts(shop, one, other, wet):
    """What shows, at a wetness, which of two deeds came first; None where nothing does.

    It is a tuple (face, shown, by): a spot put on the face is shown only by
    [one, other], where by is 0, or only by [other, one], where it is 1.
    """
    check_deed(shop, 0, one)
    check_deed(shop, 1, other)
    check_beats(wet)
    mine = behind(shop, [one, other], wet)
    theirs = behind(shop, [other, one], wet)
    if mine == theirs:
        return None
    put, shown = least_unlike(mine, theirs)
    faces = shop.faces()
    return (faces[put], faces[shown], theirs[shown] >> put & 1)


def may_change(shop, row, wet):
    """The places of the deeds of a row that may change places with the next ones."""
    check_row(shop, row)
    check_beats(wet)
    told = []
    left = wet
    for k in range(len(row) - 1):
        one, other = row[k], row[k + 1]
        if behind(shop, [one, other], left) == behind(shop, [other, one], left):
            told.append(k)
        left = max(0, left - one[-1])
    return told


def outcomes(shop, row, wet):
    """The least of all orders that are like one another, and how many these are, each time."""
    check_row(shop, row)
    if len(row) == 0 or len(row) > MOST_ORDERED:
        raise TooMany(MOST_ORDERED)
    check_beats(wet)
    least = {}
    many = {}
    for order, has in _orders(shop, row, wet):
        web = tuple(has)
        # Lesser orders come ahead.
        least.setdefault(web, order)
        many[web] = many.get(web, 0) + 1
    return sorted([(least[web], many[web]) for web in least])


def _orders(shop, row, wet):
    """All orders of a row's deeds, the lesser ones ahead, and what each face has behind them."""
    faces = shop.faces()
    courses = [numbered(faces, course_of(shop, [deed])) for deed in row]
    begun = [((), fresh(faces), wet)]
    for _ in row:
        begun = [
            (order + (k,), _carried(courses[k], has, left), max(0, left - row[k][-1]))
            for order, has, left in begun
            for k in range(len(row)) if k not in order
        ]
    return [(order, has) for order, has, _ in begun]


def _carried(course, has, left):
    """What each face has behind a course, where spots are wet for so many beats yet."""
    told = list(has)
    carry(course, told, left)
    return told
