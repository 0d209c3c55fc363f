"""What touches what between the turns of one strip, rolled by its head round a drum.

A gap is what lies between two turns, one upon the other: the outward faces of
the lower turn and the inward faces of the upper one. A face's ground are the
cells of the lower turn that it lies on or, of an outward face, its own cell.
"""

from math import gcd
from wetmarks.checks import check_beats, check_below, check_face, check_length
from wetmarks.errors import NoBeats
from wetmarks.wholes import is_from


def beneath(drum, cell):
    """The first and the last cell on which a cell lies, None on turn 0."""
    turn, place, size = drum.where(cell)
    if turn == 0:
        return None
    return _met(drum, place, size, turn - 1)


def above(drum, length, cell):
    """The first and the last cell of the roll that lie on a cell, None where none does."""
    check_length(length)
    check_below(length, cell)
    turn, place, size = drum.where(cell)
    first, last = _met(drum, place, size, turn + 1)
    if first >= length:
        return None
    return (first, min(last, length - 1))


def pairs(drum, length):
    """How many pairs of faces touch."""
    turn, _ = drum.filled(length)
    if turn == 0:
        return 0
    inward = length - drum.first()
    outward = beneath(drum, length - 1)[1] + 1
    # Each piece is a tree: it has one pair less than faces.
    return inward + outward - pieces(drum, length)


def pieces(drum, length):
    """How many pieces of two faces and more there are."""
    turn, _ = drum.filled(length)
    if turn == 0:
        return 0
    # Each gap has one piece a sector; the last one in those that are begun.
    return _sectors(drum) * (turn - 1) + sector(drum, length - 1)[0] + 1


def sector(drum, cell):
    """The number of a cell's sector, and which cell of the lesser drum it is there."""
    turn, place, size = drum.where(cell)
    many = _sectors(drum)
    part = size // many
    return (place // part, drum.begins(turn) // many + place % part)


def share(drum, length, number):
    """How many cells of the roll lie in the sector of a number."""
    turn, places = drum.filled(length)
    many = _sectors(drum)
    check_below(many, number)
    part = drum.size(turn) // many
    return drum.begins(turn) // many + min(part, max(0, places - number * part))


def piece(drum, length, face):
    """The first and the last cell whose outward, and whose inward, faces hang with a face."""
    check_length(length)
    check_face(length, face)
    ground = _ground(drum, length, face)
    if ground is None:
        return _lone(face)
    turn, place, size = drum.where(ground[0])
    many = _sectors(drum)
    number = place // (size // many)
    part = drum.size(turn + 1) // many
    low = drum.begins(turn) + number * (size // many)
    first = drum.begins(turn + 1) + number * part
    last = min(first + part, length) - 1
    return ((low, beneath(drum, last)[1]), (first, last))


def apart(drum, length, one, other):
    """By how many touches two faces are apart, None where they don't hang together."""
    # No two pieces are told alike; what is no length or no face is refused there.
    if piece(drum, length, one) != piece(drum, length, other):
        return None
    if one == other:
        return 0
    mine = _ground(drum, length, one)
    theirs = _ground(drum, length, other)
    between = max(0, theirs[0] - mine[1], mine[0] - theirs[1])
    return _rise(one) + 2 * between + _rise(other)


def on_way(drum, length, one, other, many):
    """The face so many touches from one on the way to other, None where there is no way."""
    far = apart(drum, length, one, other)
    if far is None:
        return None
    if not is_from(0, many) or many > far:
        raise NoBeats(many)
    if many == 0:
        return tuple(one)
    if many == far:
        return tuple(other)
    return _amidst(drum, length, one, other, many)


def amid(drum, length, one, other, third):
    """The face on the ways between each two of three faces, None where two don't hang together."""
    far = apart(drum, length, one, other)
    near = apart(drum, length, one, third)
    rest = apart(drum, length, other, third)
    if far is None or near is None or rest is None:
        return None
    # The two ways from one run together for half of what both, added, are
    # longer than the way between the others.
    return on_way(drum, length, one, other, (far + near - rest) // 2)


def reach(drum, length, face, beats):
    """Which faces have ink behind so many beats, where it is put on a face."""
    whole = piece(drum, length, face)
    check_beats(beats)
    ground = _ground(drum, length, face)
    if ground is None:
        return whole
    left = beats - _rise(face)
    lowers = _widened(whole[0], ground, left)
    # An inward face has ink a beat behind those beneath it.
    inked = _widened(whole[0], ground, left - 1)
    if inked is None:
        return (lowers, _lone(face)[1])
    first = above(drum, length, inked[0])[0]
    last = above(drum, length, inked[1])[1]
    return (lowers, (first, last))


def ends(drum, length, face):
    """The most touches by which two faces of a face's piece are apart, and two that are."""
    lowers, uppers = piece(drum, length, face)
    if lowers is None or uppers is None:
        return (0, tuple(face), tuple(face))
    # The first inward face begins where its sector does, and lies on the first
    # outward one alone: so nothing of the piece is farther on that side.
    start = (uppers[0], "in")
    lower = (lowers[1], "out")
    upper = (uppers[1], "in")
    by_lower = apart(drum, length, start, lower)
    by_upper = apart(drum, length, start, upper)
    if by_upper > by_lower:
        return (by_upper, start, upper)
    return (by_lower, start, lower)


def middle(drum, length, face):
    """The one or two faces from which ink is on the whole of a face's piece the soonest."""
    many, one, other = ends(drum, length, face)
    found = [on_way(drum, length, one, other, many // 2)]
    if many % 2 == 1:
        found.append(on_way(drum, length, one, other, many // 2 + 1))
    return sorted(found)


def widest(drum, length):
    """The ends of a piece of the roll that are farthest apart, None where nothing touches."""
    turn, _ = drum.filled(length)
    if turn == 0:
        return None
    # Pieces grow with the turns, and with what is filled: only the first ones
    # of the last gap and of the one ahead may be the widest. (Ahead of turn 1
    # there is none: what lies alone is not wider.)
    last = ends(drum, length, (drum.begins(turn), "in"))
    ahead = ends(drum, length, (drum.begins(turn - 1), "in"))
    if ahead[0] > last[0]:
        return ahead
    return last


def _met(drum, place, size, turn):
    """The first and the last cell of a turn that a place of one of size places meets."""
    begin = drum.begins(turn)
    many = drum.size(turn)
    return (begin + place * many // size, begin + ((place + 1) * many - 1) // size)


def _sectors(drum):
    """How many sectors a drum's round has."""
    return gcd(drum.first(), drum.step())


def _ground(drum, length, face):
    """The first and the last cell of a face's ground, None where the face touches nothing."""
    cell, side = face
    if side == "in":
        return beneath(drum, cell)
    if above(drum, length, cell) is None:
        return None
    return (cell, cell)


def _lone(face):
    """What a face that hangs with no other one is as a piece."""
    cell, side = face
    if side == "in":
        return (None, (cell, cell))
    return ((cell, cell), None)


def _rise(face):
    """How many touches a face is away from its ground."""
    if face[1] == "in":
        return 1
    return 0


def _widened(lowers, ground, touches):
    """The first and the last of a piece's lower cells within so many touches of the ground."""
    if touches < 0:
        return None
    wide = touches // 2
    return (max(lowers[0], ground[0] - wide), min(lowers[1], ground[1] + wide))


def _amidst(drum, length, one, other, many):
    """The face so many touches from one, of those between one and other on their way."""
    mine = _ground(drum, length, one)
    theirs = _ground(drum, length, other)
    # Of one's ground the way goes by the cell nearest to the other's.
    start = min(max(mine[0], theirs[0]), mine[1])
    way = 1 if theirs[0] >= start else -1
    touches = many - _rise(one)
    low = start + way * (touches // 2)
    if touches % 2 == 0:
        return (low, "out")
    # The last cell on the left one of two neighbours lies on the right one, too.
    return (above(drum, length, min(low, low + way))[1], "in")
