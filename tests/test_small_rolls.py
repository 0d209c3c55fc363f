"""Points 9 to 16 on small rolls, each function against a plain walk over faces."""

import unittest
from itertools import combinations_with_replacement, permutations, product

from walks import Roll, as_told, small_rolls
from wetmarks.drums import Drum
from wetmarks.gaps import (above, amid, apart, beneath, ends, middle, on_way, pairs, piece, pieces,
                           reach, sector, share, widest)


def sectors(first, step):
    """The greatest number that divides first and step, or first, where step is 0."""
    return max(g for g in range(1, first + 1) if first % g == 0 and step % g == 0)


def span(cells):
    return (cells[0], cells[-1]) if cells else None


class SmallRolls(unittest.TestCase):
    """Each test holds one function for all rolls, or for those of at most so many cells."""

    @classmethod
    def setUpClass(cls):
        cls.rolls = [(told, Drum(*told[:2]), Roll(*told)) for told in small_rolls()]

    def hold(self, check, most=36):
        for told, drum, roll in self.rolls:
            if told[2] <= most:
                with self.subTest(first=told[0], step=told[1], length=told[2]):
                    check(told[2], drum, roll)

    def test_beneath_and_above(self):
        self.hold(self.hold_beneath_and_above)

    def hold_beneath_and_above(self, length, drum, roll):
        for cell in range(length):
            self.assertEqual(beneath(drum, cell), span(roll.on[cell]))
            self.assertEqual(above(drum, length, cell), span(roll.under[cell]))
            for cells in (roll.on[cell], roll.under[cell]):
                self.assertEqual(cells, list(range(cells[0], cells[-1] + 1)) if cells else [])

    def test_pairs_and_pieces(self):
        self.hold(self.hold_pairs_and_pieces)

    def hold_pairs_and_pieces(self, length, drum, roll):
        lumps = roll.lumps()
        self.assertEqual(pairs(drum, length), sum(len(on) for on in roll.on.values()))
        self.assertEqual(pieces(drum, length), len(lumps))
        self.assertEqual(pairs(drum, length), sum(len(lump) - 1 for lump in lumps))

    def test_sectors(self):
        self.hold(self.hold_sectors)

    def hold_sectors(self, length, drum, roll):
        many = sectors(drum.first(), drum.step())
        counts = [0] * many
        for cell, (_, place, size) in enumerate(roll.spots):
            number = place * many // size
            self.assertEqual(sector(drum, cell), (number, counts[number]))
            counts[number] += 1
        for number in range(many):
            self.assertEqual(share(drum, length, number), counts[number])

    def test_a_sector_is_a_roll_round_the_lesser_drum(self):
        self.hold(self.hold_a_sector_is_a_roll_round_the_lesser_drum, 24)

    def hold_a_sector_is_a_roll_round_the_lesser_drum(self, length, drum, roll):
        many = sectors(drum.first(), drum.step())
        lesser = Drum(drum.first() // many, drum.step() // many)
        for cell in range(length):
            number, inner = sector(drum, cell)
            on = [sector(drum, under) for under in roll.on[cell]]
            self.assertEqual({told[0] for told in on} | {number}, {number})
            self.assertEqual(beneath(lesser, inner), span([told[1] for told in on]))
            outer = [sector(drum, over)[1] for over in roll.under[cell]]
            self.assertEqual(above(lesser, share(drum, length, number), inner), span(outer))

    def test_piece(self):
        self.hold(self.hold_piece)

    def hold_piece(self, length, drum, roll):
        for face in roll.faces:
            self.assertEqual(piece(drum, length, face), as_told(list(roll.far[face])))

    def test_whole_gaps(self):
        self.hold(self.hold_whole_gaps)

    def hold_whole_gaps(self, length, drum, roll):
        many = sectors(drum.first(), drum.step())
        for turn in range(1, drum.filled(length)[0]):
            begin = drum.begins(turn)
            found = {piece(drum, length, (begin + at, "in")) for at in range(drum.size(turn))}
            self.assertEqual(len(found), many)
            for lowers, uppers in found:
                self.assertEqual(lowers[1] - lowers[0] + 1, drum.size(turn - 1) // many)
                self.assertEqual(uppers[1] - uppers[0] + 1, drum.size(turn) // many)

    def test_apart(self):
        self.hold(self.hold_apart, 30)

    def hold_apart(self, length, drum, roll):
        for one in roll.faces:
            for other in roll.faces:
                self.assertEqual(apart(drum, length, one, other), roll.far[one].get(other))

    def test_on_way(self):
        self.hold(self.hold_on_way, 30)

    def hold_on_way(self, length, drum, roll):
        for one in roll.faces:
            for other, far in roll.far[one].items():
                for many in range(far + 1):
                    told = [face for face, near in roll.far[one].items()
                            if near == many and roll.far[face][other] == far - many]
                    self.assertEqual([on_way(drum, length, one, other, many)], told)

    def test_on_way_where_there_is_none(self):
        self.hold(self.hold_on_way_where_there_is_none, 9)

    def hold_on_way_where_there_is_none(self, length, drum, roll):
        for one in roll.faces:
            for other in roll.faces:
                if other not in roll.far[one]:
                    for many in (0, 1, -1, None, "1", True, [1]):
                        self.assertIs(on_way(drum, length, one, other, many), None)

    def test_amid(self):
        self.hold(self.hold_amid, 24)

    def hold_amid(self, length, drum, roll):
        for lump in roll.lumps() + [((0, "in"),), ((length - 1, "out"),)]:
            for three in combinations_with_replacement(lump, 3):
                told = self.between_all(roll, *three)
                for one, other, third in permutations(three) if length < 9 else [three]:
                    self.assertEqual(amid(drum, length, one, other, third), told)

    def between_all(self, roll, one, other, third):
        """The face on the ways between each two of three faces that hang together."""
        near, far, rest = roll.far[one], roll.far[other], roll.far[third]
        found = [face for face in near
                 if near[face] + far[face] == near[other]
                 and near[face] + rest[face] == near[third]
                 and far[face] + rest[face] == far[third]]
        self.assertEqual(len(found), 1)
        return found[0]

    def test_amid_where_two_do_not_hang_together(self):
        self.hold(self.hold_amid_where_two_do_not_hang_together, 7)

    def hold_amid_where_two_do_not_hang_together(self, length, drum, roll):
        for one, other, third in product(roll.faces, repeat=3):
            if other not in roll.far[one] or third not in roll.far[one]:
                self.assertIs(amid(drum, length, one, other, third), None)

    def test_reach(self):
        self.hold(self.hold_reach)

    def hold_reach(self, length, drum, roll):
        for face in roll.faces:
            for beats in range(max(roll.far[face].values()) + 3):
                inked = [other for other, far in roll.far[face].items() if far <= beats]
                self.assertEqual(reach(drum, length, face, beats), as_told(inked))

    def test_reach_is_what_goes_beat_by_beat(self):
        self.hold(self.hold_reach_is_what_goes_beat_by_beat, 20)

    def hold_reach_is_what_goes_beat_by_beat(self, length, drum, roll):
        for face in roll.faces:
            inked = {face}
            for beats in range(6):
                self.assertEqual(reach(drum, length, face, beats), as_told(list(inked)))
                inked |= {other for one in inked for other in roll.near[one]}

    def test_ends(self):
        self.hold(self.hold_ends)

    def hold_ends(self, length, drum, roll):
        for face in roll.faces:
            many, one, other = ends(drum, length, face)
            lump = list(roll.far[face])
            self.assertEqual(many, roll.width(lump))
            self.assertIn(one, lump)
            self.assertIn(other, lump)
            self.assertEqual(roll.far[one][other], many)
            if len(lump) == 1:
                self.assertEqual((many, one, other), (0, face, face))

    def test_middle(self):
        self.hold(self.hold_middle)

    def hold_middle(self, length, drum, roll):
        for face in roll.faces:
            beats = {one: max(roll.far[one].values()) for one in roll.far[face]}
            fewest = min(beats.values())
            told = sorted(one for one in beats if beats[one] == fewest)
            self.assertEqual(middle(drum, length, face), told)
            self.assertEqual(fewest, (ends(drum, length, face)[0] + 1) // 2)

    def test_widest(self):
        self.hold(self.hold_widest)

    def hold_widest(self, length, drum, roll):
        lumps = roll.lumps()
        told = widest(drum, length)
        if not lumps:
            self.assertIs(told, None)
            return
        many, one, other = told
        self.assertEqual(many, max(roll.width(lump) for lump in lumps))
        self.assertEqual(roll.far[one].get(other), many)

    def test_whole_pieces_are_twice_their_outward_faces_wide(self):
        self.hold(self.hold_whole_pieces_are_twice_their_outward_faces_wide)

    def hold_whole_pieces_are_twice_their_outward_faces_wide(self, length, drum, roll):
        for turn in range(1, drum.filled(length)[0]):
            for cell in range(drum.begins(turn), drum.begins(turn + 1)):
                lowers = piece(drum, length, (cell, "in"))[0]
                told = 2 * (lowers[1] - lowers[0] + 1) if drum.step() else 1
                self.assertEqual(ends(drum, length, (cell, "in"))[0], told)

    def test_a_longer_roll(self):
        self.hold(self.hold_a_longer_roll, 20)

    def hold_a_longer_roll(self, length, drum, roll):
        last = drum.filled(length)[0]
        for longer in (length + 1, length + 2, length + drum.size(last), length + 30):
            for cell in range(length):
                near, far = above(drum, length, cell), above(drum, longer, cell)
                self.assertTrue(near is None or near[0] == far[0] and near[1] <= far[1])
                turn = drum.where(cell)[0]
                kept = [(cell, "in")] if turn < last or last == 0 else []
                kept += [(cell, "out")] if turn < last - 1 else []
                for face in kept:
                    self.assertEqual(piece(drum, longer, face), piece(drum, length, face))


class NamedEdges(unittest.TestCase):
    """A few answers written out by hand."""

    def test_turn_0_and_the_turn_behind_it(self):
        drum = Drum(3, 1)
        self.assertEqual([beneath(drum, cell) for cell in range(7)],
                         [None, None, None, (0, 0), (0, 1), (1, 2), (2, 2)])
        self.assertEqual([above(drum, 7, cell) for cell in range(7)],
                         [(3, 4), (4, 5), (5, 6), None, None, None, None])
        self.assertEqual([above(drum, 5, cell) for cell in range(3)], [(3, 4), (4, 4), None])

    def test_a_roll_of_one_cell(self):
        for drum in (Drum(1, 0), Drum(1, 3), Drum(5, 2)):
            self.assertIs(beneath(drum, 0), None)
            self.assertIs(above(drum, 1, 0), None)
            self.assertEqual((pairs(drum, 1), pieces(drum, 1), share(drum, 1, 0)), (0, 0, 1))
            self.assertEqual(piece(drum, 1, (0, "out")), ((0, 0), None))
            self.assertEqual(piece(drum, 1, (0, "in")), (None, (0, 0)))
            self.assertEqual(apart(drum, 1, (0, "in"), (0, "in")), 0)
            self.assertIs(apart(drum, 1, (0, "in"), (0, "out")), None)
            self.assertEqual(on_way(drum, 1, (0, "in"), (0, "in"), 0), (0, "in"))
            self.assertEqual(reach(drum, 1, (0, "in"), 9), (None, (0, 0)))
            self.assertEqual(ends(drum, 1, (0, "out")), (0, (0, "out"), (0, "out")))
            self.assertEqual(middle(drum, 1, (0, "out")), [(0, "out")])
            self.assertIs(widest(drum, 1), None)

    def test_step_0(self):
        drum = Drum(4, 0)
        self.assertEqual((pairs(drum, 11), pieces(drum, 11)), (7, 7))
        self.assertEqual(sector(drum, 10), (2, 2))
        self.assertEqual(piece(drum, 11, (6, "in")), ((2, 2), (6, 6)))
        self.assertEqual(piece(drum, 11, (7, "out")), ((7, 7), None))
        self.assertEqual(widest(drum, 11)[0], 1)
        self.assertEqual(middle(drum, 11, (6, "in")), [(2, "out"), (6, "in")])

    def test_first_and_step_with_a_common_divisor(self):
        drum = Drum(6, 4)
        self.assertEqual([sector(drum, cell) for cell in (0, 2, 3, 5, 6, 10, 11, 15, 16)],
                         [(0, 0), (0, 2), (1, 0), (1, 2), (0, 3), (0, 7), (1, 3), (1, 7), (0, 8)])
        self.assertEqual(piece(drum, 16, (0, "out")), ((0, 2), (6, 10)))
        self.assertEqual(piece(drum, 16, (15, "in")), ((3, 5), (11, 15)))
        self.assertEqual(piece(drum, 12, (3, "out")), ((3, 3), (11, 11)))
        self.assertEqual(piece(drum, 12, (4, "out")), ((4, 4), None))
        self.assertEqual(piece(drum, 11, (3, "out")), ((3, 3), None))
        self.assertEqual([share(drum, 12, number) for number in (0, 1)], [8, 4])

    def test_two_beats_go_one_place_farther(self):
        drum = Drum(7, 1)
        self.assertEqual([reach(drum, 15, (3, "out"), beats)[0] for beats in range(7)],
                         [(3, 3), (3, 3), (2, 4), (2, 4), (1, 5), (1, 5), (0, 6)])


if __name__ == "__main__":
    unittest.main()
