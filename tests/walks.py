"""What the tests hold the program against: plain walks over faces, and wrong inputs."""


class Own:
    """An object that claims to be equal to all, and that no dict takes as a key."""

    __hash__ = None

    def __eq__(self, other):
        return True

    def __lt__(self, other):
        raise AssertionError("compared")

    __gt__ = __le__ = __ge__ = __lt__


def no_wholes():
    """Things of many kinds, none of them a whole number."""
    return [True, False, None, "", "1", "in", b"1", (), (1,), (1, 2), [], [1], {}, {0: 1},
            set(), frozenset([1]), Own(), object(), int, len]


def no_faces(length):
    """Things of many kinds, none of them a face of a roll of so many cells."""
    amiss = [(length, "in"), (length, "out"), (10 ** 30 + length, "out"), (-1, "in"), (0, "IN"),
             (0, ""), (0, "back"), (0, None), (0, 0), (0, b"in"), (0, ["in"]), (0, Own()), (0,),
             (0, "in", "out"), ("in", 0), [0, "in"], {0: "in"}, "in", 0, 1, -1]
    return amiss + no_wholes() + [(thing, "in") for thing in no_wholes()]


def lies_on(p, b, q, a):
    """Point 9's own words: place p of b places lies on place q of a places beneath."""
    return p * a < (q + 1) * b and q * b < (p + 1) * a


class Roll:
    """A short roll round a small drum, its faces and touches walked one by one."""

    def __init__(self, first, step, length):
        self.spots = []
        turn = 0
        while len(self.spots) < length:
            size = first + turn * step
            self.spots += [(turn, place, size) for place in range(size)]
            turn += 1
        del self.spots[length:]
        self.faces = [(cell, side) for cell in range(length) for side in ("in", "out")]
        self.near = {face: [] for face in self.faces}
        self.on = {cell: [] for cell in range(length)}
        self.under = {cell: [] for cell in range(length)}
        for upper, (turn, p, b) in enumerate(self.spots):
            for lower, (ahead, q, a) in enumerate(self.spots):
                if ahead == turn - 1 and lies_on(p, b, q, a):
                    self.on[upper].append(lower)
                    self.under[lower].append(upper)
                    self.near[(upper, "in")].append((lower, "out"))
                    self.near[(lower, "out")].append((upper, "in"))
        self.far = {face: self.touches_from(face) for face in self.faces}

    def touches_from(self, face):
        """By how many touches each face is apart from one, of those that hang with it."""
        far = {face: 0}
        line = [face]
        for one in line:
            for other in self.near[one]:
                if other not in far:
                    far[other] = far[one] + 1
                    line.append(other)
        return far

    def lumps(self):
        """What hangs together, two faces and more: each time the sorted list of all faces."""
        return sorted(set(tuple(sorted(far)) for far in self.far.values() if len(far) > 1))

    def width(self, lump):
        """The most touches by which two faces of a piece are apart."""
        return max(max(self.far[face].values()) for face in lump)


def as_told(faces):
    """Some faces as the tuple (lowers, uppers) of first and last cells."""
    told = []
    for side in ("out", "in"):
        cells = sorted(cell for cell, other in faces if other == side)
        if cells and cells != list(range(cells[0], cells[-1] + 1)):
            raise AssertionError("faces with holes: " + repr(faces))
        told.append((cells[0], cells[-1]) if cells else None)
    return tuple(told)


def small_rolls():
    """Small drums' first and step, with lengths at and about the ends of turns and sectors."""
    drums = [(first, step) for first in (1, 2, 3, 4, 6) for step in (0, 1, 2, 3, 4, 7)]
    for first, step in drums + [(12, 8), (9, 3), (10, 15), (5, 5)]:
        part = first
        while step % part or first % part:
            part -= 1
        ends = [first, 2 * first + step, 3 * first + 3 * step, 4 * first + 6 * step]
        lengths = {1, 2}
        for end in ends:
            size = first + step * ends.index(end)
            lengths |= {end - 1, end, end + 1, end - size // 2, end - size // part}
            lengths |= {end + size // part, end + 2}
        yield from ((first, step, length) for length in sorted(lengths) if 1 <= length <= 36)
