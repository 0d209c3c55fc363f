"""Points 1 and 9 to 16 on numbers of thirty figures, where nothing may be walked."""

import unittest
from math import gcd

from walks import lies_on
from wetmarks.drums import Drum
from wetmarks.gaps import (above, amid, apart, beneath, ends, middle, on_way, pairs, piece, pieces,
                           reach, sector, share, widest)

GREAT = 10 ** 30 - 1
MOST = 10 ** 15 - 1
DRUMS = [Drum(*told) for told in (
    (1, 0), (7, 0), (MOST, 0), (1, 1), (1, MOST), (MOST, 1), (MOST, MOST), (6, 4), (40, 28),
    (123456789012345, 543210987654321), (10 ** 14, 3 * 10 ** 13), (999999999999990, 12))]
CELLS = [GREAT, GREAT - 1, GREAT // 2, 10 ** 29 + 12345, 77 * 10 ** 20 + 3]
LENGTHS = [cell + 1 for cell in CELLS]


def bounds(drum, length):
    """The length, and those at which its last turn is just whole, begun, or amid."""
    turn = drum.filled(length)[0]
    begin, size = drum.begins(turn), drum.size(turn)
    part = size // gcd(drum.first(), drum.step())
    return sorted({length, begin, begin + 1, begin + part, begin + part // 2 + 1,
                   begin + (size // part // 2) * part + 1, begin + size - 1, begin + size} - {0})


def lengths_of(drum):
    return sorted(set(length for told in LENGTHS for length in bounds(drum, told)))


def faces_of(drum, length):
    """Faces of the gap that ends with the roll, and of the one ahead of it."""
    turn = drum.filled(length)[0]
    part = drum.size(turn - 1) // gcd(drum.first(), drum.step())
    first, begin = drum.begins(turn - 1), drum.begins(turn)
    cells = {first, first + 1, first + part // 2, first + part - 1, begin - 1, begin,
             (begin + length - 1) // 2, length - 1, first - 1, first - part // 2 - 1}
    return [(cell, side) for cell in sorted(cells) if 0 <= cell < length for side in ("in", "out")]


class Touches(unittest.TestCase):

    def lies(self, drum, upper, lower):
        turn, p, b = drum.where(upper)
        under, q, a = drum.where(lower)
        return turn == under + 1 and lies_on(p, b, q, a)

    def test_beneath(self):
        for drum in DRUMS:
            for cell in CELLS + [drum.cell_at(GREAT, drum.size(GREAT) // 3)]:
                low, high = beneath(drum, cell)
                self.assertTrue(self.lies(drum, cell, low) and self.lies(drum, cell, high))
                self.assertFalse(self.lies(drum, cell, low - 1) or self.lies(drum, cell, high + 1))
                self.assertTrue(low <= high <= low + 1)

    def test_above(self):
        for drum in DRUMS:
            for cell in CELLS:
                length = drum.begins(drum.where(cell)[0] + 2)
                low, high = above(drum, length, cell)
                self.assertTrue(self.lies(drum, low, cell) and self.lies(drum, high, cell))
                self.assertFalse(self.lies(drum, low - 1, cell) or self.lies(drum, high + 1, cell))
                self.assertEqual(above(drum, high, cell), (low, high - 1) if low < high else None)
                self.assertEqual(above(drum, low + 1, cell), (low, low))
                self.assertIs(above(drum, low, cell), None)
                self.assertIs(above(drum, cell + 1, cell), None)

    def test_pairs_cell_by_cell(self):
        for drum in DRUMS:
            for length in lengths_of(drum):
                low, high = beneath(drum, length)
                self.assertEqual(pairs(drum, length + 1) - pairs(drum, length), high - low + 1)

    def test_pieces_cell_by_cell(self):
        for drum in DRUMS:
            many = gcd(drum.first(), drum.step())
            for length in lengths_of(drum):
                _, place, size = drum.where(length)
                begun = 1 if place % (size // many) == 0 else 0
                self.assertEqual(pieces(drum, length + 1) - pieces(drum, length), begun)

    def test_pairs_and_pieces_of_whole_gaps(self):
        turns = 10 ** 15
        drum = Drum(1, 1)
        length = turns * (turns + 1) // 2
        self.assertEqual(pairs(drum, length), turns * (turns - 1))
        self.assertEqual(pieces(drum, length), turns - 1)
        self.assertEqual(pairs(Drum(7, 0), 7 * 10 ** 29), 7 * 10 ** 29 - 7)
        self.assertEqual(pieces(Drum(7, 0), 7 * 10 ** 29), 7 * 10 ** 29 - 7)

    def test_sectors(self):
        for drum in DRUMS:
            many = gcd(drum.first(), drum.step())
            lesser = Drum(drum.first() // many, drum.step() // many)
            for cell in CELLS:
                number, inner = sector(drum, cell)
                turn, place, size = drum.where(cell)
                self.assertEqual(number, place * many // size)
                self.assertEqual(lesser.where(inner), (turn, place - number * size // many, size // many))
                self.assertEqual(share(drum, cell, number), inner)
                self.assertEqual(share(drum, cell + 1, number), inner + 1)
                low, high = beneath(drum, cell)
                told = tuple(sector(drum, under) for under in (low, high))
                self.assertEqual([under[0] for under in told], [number, number])
                self.assertEqual(beneath(lesser, inner), (told[0][1], told[1][1]))

    def test_the_shares_are_all_cells(self):
        for drum in (Drum(6, 4), Drum(40, 28), Drum(7, 0), Drum(1, MOST)):
            many = gcd(drum.first(), drum.step())
            for length in lengths_of(drum):
                counts = [share(drum, length, number) for number in range(many)]
                self.assertEqual(sum(counts), length)
                self.assertEqual(counts, sorted(counts, reverse=True))


class Pieces(unittest.TestCase):

    def each(self):
        for drum in DRUMS:
            for length in lengths_of(drum):
                for face in faces_of(drum, length):
                    yield drum, length, face

    def test_piece_ends_where_nothing_is_shared(self):
        for drum, length, face in self.each():
            lowers, uppers = piece(drum, length, face)
            mine = uppers if face[1] == "in" else lowers
            self.assertTrue(mine[0] <= face[0] <= mine[1])
            if lowers is None:
                self.assertEqual(drum.where(face[0])[0], 0)
            elif uppers is None:
                self.assertIs(above(drum, length, face[0]), None)
            else:
                self.assertEqual(beneath(drum, uppers[0])[0], lowers[0])
                self.assertEqual(beneath(drum, uppers[1])[1], lowers[1])
                self.assertEqual(above(drum, length, lowers[0])[0], uppers[0])
                self.assertEqual(above(drum, length, lowers[1])[1], uppers[1])

    def test_piece_of_whole_gaps(self):
        for drum in DRUMS:
            many = gcd(drum.first(), drum.step())
            for length in lengths_of(drum):
                turn = drum.filled(length)[0] - 1
                if turn > 0:
                    face = (drum.begins(turn) + drum.size(turn) // many, "in")
                    lowers, uppers = piece(drum, length, (face[0] - 1, "in"))
                    self.assertEqual(lowers[1] - lowers[0] + 1, drum.size(turn - 1) // many)
                    self.assertEqual(uppers[1] - uppers[0] + 1, drum.size(turn) // many)
                    wide = 2 * drum.size(turn - 1) // many if drum.step() else 1
                    self.assertEqual(ends(drum, length, (face[0] - 1, "in"))[0], wide)

    def test_apart_and_on_way(self):
        for drum, length, one in self.each():
            for other in faces_of(drum, length):
                far = apart(drum, length, one, other)
                self.assertEqual(far, apart(drum, length, other, one))
                alike = piece(drum, length, one) == piece(drum, length, other)
                self.assertEqual(far is not None, alike)
                if far is None:
                    self.assertIs(on_way(drum, length, one, other, GREAT), None)
                    continue
                for many in sorted({0, 1, 2, far // 3, far // 2, far - 1, far}):
                    if 0 <= many <= far:
                        self.on_the_way(drum, length, one, other, many, far)

    def on_the_way(self, drum, length, one, other, many, far):
        face = on_way(drum, length, one, other, many)
        self.assertEqual(apart(drum, length, one, face), many)
        self.assertEqual(apart(drum, length, face, other), far - many)
        self.assertEqual(on_way(drum, length, other, one, far - many), face)
        if many < far:
            upper, lower = sorted([face, on_way(drum, length, one, other, many + 1)], reverse=True)
            self.assertEqual((upper[1], lower[1]), ("in", "out"))
            low, high = beneath(drum, upper[0])
            self.assertTrue(low <= lower[0] <= high)

    def test_outward_faces_are_twice_as_many_apart(self):
        drum = Drum(MOST, 1)
        begin = drum.begins(10 ** 14)
        length = drum.begins(10 ** 14 + 2)
        for i, j in ((0, 10 ** 15), (5, 10 ** 14), (10 ** 15, 10 ** 15 - 3)):
            self.assertEqual(apart(drum, length, (begin + i, "out"), (begin + j, "out")), 2 * abs(i - j))

    def test_amid(self):
        for drum in DRUMS:
            length = lengths_of(drum)[-1]
            faces = faces_of(drum, length)
            for one in faces:
                for other in faces:
                    for third in faces[::2]:
                        self.amid_three(drum, length, one, other, third)

    def amid_three(self, drum, length, one, other, third):
        face = amid(drum, length, one, other, third)
        two = ((one, other), (one, third), (other, third))
        far = [apart(drum, length, a, b) for a, b in two]
        self.assertEqual(face is None, None in far)
        if face is not None:
            for (a, b), touches in zip(two, far):
                ways = apart(drum, length, a, face) + apart(drum, length, face, b)
                self.assertEqual(ways, touches)

    def test_reach(self):
        for drum, length, face in self.each():
            whole = piece(drum, length, face)
            self.assertEqual(reach(drum, length, face, GREAT * GREAT), whole)
            lone = (None, (face[0], face[0])) if face[1] == "in" else ((face[0], face[0]), None)
            self.assertEqual(reach(drum, length, face, 0), lone)
            for beats in (1, 2, 3, 10 ** 6, 10 ** 6 + 1, 10 ** 14, 10 ** 14 + 7):
                self.reach_holds(drum, length, face, beats, whole)

    def reach_holds(self, drum, length, face, beats, whole):
        for side, cells, most in zip(("out", "in"), reach(drum, length, face, beats), whole):
            if cells is None:
                self.assertTrue(most is None or beats == 0)
                continue
            for cell, beyond, last in ((cells[0], cells[0] - 1, most[0]), (cells[1], cells[1] + 1, most[1])):
                self.assertLessEqual(apart(drum, length, face, (cell, side)), beats)
                if cell != last:
                    self.assertGreater(apart(drum, length, face, (beyond, side)), beats)

    def test_ends_and_middle(self):
        for drum, length, face in self.each():
            many, one, other = ends(drum, length, face)
            self.assertEqual(apart(drum, length, one, other), many)
            lowers, uppers = piece(drum, length, face)
            rims = [(cell, "out") for cell in lowers or ()] + [(cell, "in") for cell in uppers or ()]
            found = [apart(drum, length, a, b) for a in rims for b in rims]
            self.assertEqual(many, max(found))
            told = middle(drum, length, face)
            self.assertEqual(told, sorted(told))
            self.assertEqual(len(told), 1 + many % 2)
            for face in told:
                beats = max(apart(drum, length, face, rim) for rim in rims)
                self.assertEqual(beats, (many + 1) // 2)
                self.assertEqual(reach(drum, length, face, beats), (lowers, uppers))

    def test_widest(self):
        for drum in DRUMS:
            for length in lengths_of(drum):
                many, one, other = widest(drum, length)
                self.assertEqual(apart(drum, length, one, other), many)
                for face in faces_of(drum, length):
                    self.assertLessEqual(ends(drum, length, face)[0], many)

    def test_first_and_last_turn_of_great_drums(self):
        drum = Drum(MOST, MOST)
        self.assertIs(widest(drum, MOST), None)
        self.assertEqual((pairs(drum, MOST), pieces(drum, MOST)), (0, 0))
        self.assertEqual(widest(drum, MOST + 1)[0], 1)
        self.assertEqual(sector(drum, MOST - 1), (MOST - 1, 0))
        self.assertEqual(piece(drum, MOST + 1, (0, "out")), ((0, 0), (MOST, MOST)))
        self.assertEqual(piece(drum, 3 * MOST, (0, "out")), ((0, 0), (MOST, MOST + 1)))
        self.assertEqual(ends(drum, 3 * MOST, (0, "out"))[0], 2)


if __name__ == "__main__":
    unittest.main()
