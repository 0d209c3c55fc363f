"""Points 9 to 16: what the functions of wetmarks.gaps refuse, and in which order."""

import unittest

from walks import no_faces, no_wholes
from wetmarks import gaps
from wetmarks.drums import Drum
from wetmarks.errors import NoBeats, NoCell, NoFace

DRUM = Drum(4, 2)
LENGTH = 9
FACE = (5, "in")
LONE = (8, "out")
NO_LENGTHS = [0, -1, -10 ** 30] + no_wholes()
NO_CELLS = [-1, -10 ** 30] + no_wholes()
BEYOND = [LENGTH, LENGTH + 1, 10 ** 30] + NO_CELLS


class Refused(unittest.TestCase):

    def refused(self, error, thing, ask, *arguments):
        with self.assertRaises(error) as caught:
            ask(DRUM, *arguments)
        field = {NoCell: "at", NoFace: "face", NoBeats: "beats"}[error]
        self.assertIs(getattr(caught.exception, field), thing)

    def test_no_length(self):
        rest = {
            gaps.above: (0,), gaps.pairs: (), gaps.pieces: (), gaps.share: (0,), gaps.piece: (FACE,),
            gaps.apart: (FACE, FACE), gaps.on_way: (FACE, FACE, 0), gaps.amid: (FACE, FACE, FACE),
            gaps.reach: (FACE, 0), gaps.ends: (FACE,), gaps.middle: (FACE,), gaps.widest: (),
        }
        for ask, more in rest.items():
            for length in NO_LENGTHS:
                self.refused(NoCell, length, ask, length, *more)
                # The length is refused ahead of all that stands behind it.
                self.refused(NoCell, length, ask, length, *[None for _ in more])

    def test_no_cell(self):
        for cell in NO_CELLS:
            self.refused(NoCell, cell, gaps.beneath, cell)
            self.refused(NoCell, cell, gaps.sector, cell)
        for cell in BEYOND:
            self.refused(NoCell, cell, gaps.above, LENGTH, cell)

    def test_no_sector(self):
        for number in [2, 3, 10 ** 30] + NO_CELLS:
            self.refused(NoCell, number, gaps.share, LENGTH, number)

    def test_no_face(self):
        for face in no_faces(LENGTH):
            for ask in (gaps.piece, gaps.ends, gaps.middle):
                self.refused(NoFace, face, ask, LENGTH, face)
            self.refused(NoFace, face, gaps.reach, LENGTH, face, 0)
            self.refused(NoFace, face, gaps.apart, LENGTH, face, FACE)
            self.refused(NoFace, face, gaps.apart, LENGTH, FACE, face)
            self.refused(NoFace, face, gaps.on_way, LENGTH, face, FACE, 0)
            self.refused(NoFace, face, gaps.on_way, LENGTH, FACE, face, 0)
            self.refused(NoFace, face, gaps.amid, LENGTH, face, FACE, FACE)
            self.refused(NoFace, face, gaps.amid, LENGTH, FACE, face, FACE)
            self.refused(NoFace, face, gaps.amid, LENGTH, FACE, FACE, face)
            # Also where the first two don't hang together.
            self.refused(NoFace, face, gaps.amid, LENGTH, FACE, LONE, face)

    def test_the_one_is_refused_ahead_of_the_other(self):
        for face in no_faces(LENGTH):
            for other in (None, (0, "back"), [0, "in"], 7):
                self.refused(NoFace, face, gaps.apart, LENGTH, face, other)
                self.refused(NoFace, face, gaps.on_way, LENGTH, face, other, -1)
                self.refused(NoFace, other, gaps.on_way, LENGTH, FACE, other, -1)
                self.refused(NoFace, face, gaps.amid, LENGTH, face, other, other)
                self.refused(NoFace, face, gaps.amid, LENGTH, FACE, face, other)

    def test_no_beats(self):
        for beats in NO_CELLS:
            self.refused(NoBeats, beats, gaps.reach, LENGTH, FACE, beats)
            self.refused(NoBeats, beats, gaps.reach, LENGTH, LONE, beats)
            self.refused(NoBeats, beats, gaps.reach, LENGTH, (0, "in"), beats)

    def test_faces_are_refused_ahead_of_beats(self):
        for face in no_faces(LENGTH):
            self.refused(NoFace, face, gaps.reach, LENGTH, face, -1)
            self.refused(NoFace, face, gaps.on_way, LENGTH, face, FACE, -1)
            self.refused(NoFace, face, gaps.on_way, LENGTH, FACE, face, None)

    def test_no_many(self):
        other = (4, "in")
        far = gaps.apart(DRUM, LENGTH, FACE, other)
        for many in [far + 1, far + 2, 10 ** 30] + NO_CELLS:
            self.refused(NoBeats, many, gaps.on_way, LENGTH, FACE, other, many)
        for many in [1, 2, 10 ** 30] + NO_CELLS:
            self.refused(NoBeats, many, gaps.on_way, LENGTH, FACE, FACE, many)
            self.refused(NoBeats, many, gaps.on_way, LENGTH, LONE, LONE, many)

    def test_where_they_do_not_hang_together_no_many_is_refused(self):
        for many in [0, 1, 10 ** 30] + NO_CELLS:
            self.assertIs(gaps.on_way(DRUM, LENGTH, FACE, LONE, many), None)

    def test_the_last_cell_and_sector_are_none_to_refuse(self):
        self.assertIs(gaps.above(DRUM, LENGTH, LENGTH - 1), None)
        self.assertEqual(gaps.share(DRUM, LENGTH, 1), 4)
        self.assertEqual(gaps.piece(DRUM, LENGTH, LONE), ((8, 8), None))


if __name__ == "__main__":
    unittest.main()
