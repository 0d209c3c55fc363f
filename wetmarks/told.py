"""What touching tells of the drum: where drums are parted, and which ones fit what was seen."""

from wetmarks.checks import check_beats, check_face, check_length, first_amiss
from wetmarks.checks import is_face, is_tuple_of
from wetmarks.drums import Drum
from wetmarks.errors import BadDrum, BadMarks, NoTurn, TooMany
from wetmarks.gaps import reach
from wetmarks.wholes import is_from, is_whole

MOST_DRUMS = 40
MOST_SIGHTINGS = 40
# Drums are tried whose first and step are at most so many.
MOST_TRIED = 100
# All faces of a roll are tried where it has at most so many cells.
MOST_CELLS = 200


def parted(one, other):
    """The least cell that lies otherwise on two drums, None for equal ones."""
    _check_drum("one", one)
    _check_drum("other", other)
    if one == other:
        return None
    first = one.first()
    if first != other.first():
        return min(first, other.first())
    low, high = sorted([one.size(1), other.size(1)])
    # Place p of a turn 1 of so many places begins on the cell p first / many,
    # rounded down. So it begins otherwise where a whole number over p is such a
    # fraction; and it ends otherwise where one over p + 1 is.
    begins = _least_above((first, high), (first, low))[1]
    ends = _least_from((first, high), (first, low))[1]
    # No greater place is told than turn 1 of the lesser step has: first over that
    # many is such a fraction.
    return first + min(begins, ends - 1)


def alike(one, other, length):
    """Whether a roll of so many cells has the same touches on two drums."""
    cell = parted(one, other)
    check_length(length)
    return cell is None or cell >= length


def fits(drum, sightings):
    """The place of the first sighting that a drum doesn't fit, None where it fits all."""
    _check_drum("drum", drum)
    _check_sightings(sightings)
    return _first_unfit(drum, sightings)


def told_by(sightings, first, step):
    """All drums, by first and step, that fit all sightings."""
    _check_sightings(sightings)
    _check_tried(first, step)
    return [
        (drum.first(), drum.step())
        for drum in _drums_till(first, step)
        if _first_unfit(drum, sightings) is None
    ]


def telling(drums, length, face, beats):
    """The groups of places of those drums of which a face tells the same."""
    _check_drums(drums)
    check_length(length)
    check_face(length, face)
    check_beats(beats)
    return _groups(drums, length, face, beats)


def best_face(drums, length, beats):
    """The face that leaves the fewest drums in the greatest group, and how many these are."""
    _check_drums(drums)
    check_length(length)
    if length > MOST_CELLS:
        raise TooMany(MOST_CELLS)
    check_beats(beats)
    told = []
    for face in [(cell, side) for cell in range(length) for side in ("in", "out")]:
        groups = _groups(drums, length, face, beats)
        told.append((max([len(group) for group in groups]), face))
    many, face = min(told)
    return (face, many)


def known_from(drum, first, step):
    """The least length from which on a roll has touches that it has on no other of the drums."""
    _check_drum("drum", drum)
    _check_tried(first, step)
    cells = [parted(drum, other) for other in _drums_till(first, step) if other != drum]
    return max(cells, default=0) + 1


def _check_drum(part, drum):
    """Refuse what is no drum."""
    if not isinstance(drum, Drum):
        raise BadDrum(part)


def _check_drums(drums):
    """Refuse what is no list of drums."""
    if first_amiss(1, MOST_DRUMS, lambda drum: isinstance(drum, Drum), drums) is not None:
        raise BadDrum("drums")


def _check_sightings(sightings):
    """Refuse what are no sightings."""
    at = first_amiss(1, MOST_SIGHTINGS, _is_sighting, sightings)
    if at is not None:
        raise BadMarks(at)


def _check_tried(first, step):
    """Refuse what is no first and no step of drums that are tried."""
    if not is_from(1, first) or first > MOST_TRIED:
        raise NoTurn(first)
    if not is_from(0, step) or step > MOST_TRIED:
        raise NoTurn(step)


def _is_sighting(thing):
    """Whether a thing, whatever it is, is a sighting."""
    if not is_tuple_of(5, thing):
        return False
    length, face, beats, lowers, uppers = thing
    if not is_from(1, length) or not is_face(length, face) or not is_from(0, beats):
        return False
    return _is_seen(lowers) and _is_seen(uppers)


def _is_seen(thing):
    """Whether a thing, whatever it is, is a tuple of two whole numbers, or None."""
    return thing is None or is_tuple_of(2, thing) and is_whole(thing[0]) and is_whole(thing[1])


def _drums_till(first, step):
    """All drums of at most this first and this step, sorted by these."""
    return [Drum(f, s) for f in range(1, first + 1) for s in range(step + 1)]


def _first_unfit(drum, sightings):
    """The place of the first sighting that a drum doesn't fit, None where it fits all."""
    for at, (length, face, beats, lowers, uppers) in enumerate(sightings):
        if reach(drum, length, face, beats) != (lowers, uppers):
            return at
    return None


def _groups(drums, length, face, beats):
    """The groups that telling tells."""
    groups = {}
    for at, drum in enumerate(drums):
        groups.setdefault(reach(drum, length, face, beats), []).append(at)
    return sorted(list(groups.values()))


def _least_above(low, high):
    """The fraction of the least bottom that is above low and not above high.

    Fractions are tuples (top, bottom); of several the one of the least top.
    """
    whole = low[0] // low[1]
    if (whole + 1) * high[1] <= high[0]:
        return (whole + 1, 1)
    # All lie between two whole numbers: what they are above the lesser is turned over.
    top, bottom = _least_from(_turned(high, whole), _turned(low, whole))
    return (whole * top + bottom, top)


def _least_from(low, high):
    """The fraction of the least bottom that is not below low and is below high, which may have bottom 0."""
    whole = -(-low[0] // low[1])
    if whole * high[1] < high[0]:
        return (whole, 1)
    top, bottom = _least_above(_turned(high, whole - 1), _turned(low, whole - 1))
    return ((whole - 1) * top + bottom, top)


def _turned(fraction, whole):
    """What a fraction is above a whole number, its top and bottom exchanged."""
    top, bottom = fraction
    return (bottom, top - whole * bottom)
