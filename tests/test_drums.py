"""Points 5 to 8: drums, their turns, and where cells lie."""

import unittest

from walks import Own, Roll, no_wholes
from wetmarks.drums import Drum
from wetmarks.errors import BadDrum, NoCell, NoPlace, NoTurn

GREAT = 10 ** 30 - 1
STEPS = [(1, 0), (7, 0), (1, 1), (1, 10 ** 15 - 1), (10 ** 15 - 1, 0), (10 ** 15 - 1, 1),
         (10 ** 15 - 1, 10 ** 15 - 1), (6, 4), (123456789012345, 543210987654321)]


class Made(unittest.TestCase):

    def refused(self, part, first, step):
        with self.assertRaises(BadDrum) as caught:
            Drum(first, step)
        self.assertEqual(caught.exception.part, part)

    def test_first_and_step_are_told(self):
        for first, step in STEPS:
            drum = Drum(first, step)
            self.assertEqual((drum.first(), drum.step()), (first, step))

    def test_wrong_first(self):
        for first in [0, -1, -10 ** 30, 10 ** 15, 10 ** 30] + no_wholes():
            self.refused("first", first, 1)

    def test_wrong_step(self):
        for step in [-1, -10 ** 30, 10 ** 15, 10 ** 30] + no_wholes():
            self.refused("step", 1, step)

    def test_first_is_refused_ahead_of_step(self):
        for first in [0] + no_wholes():
            for step in (-1, None, True, Own()):
                self.refused("first", first, step)

    def test_equal_drums(self):
        self.assertTrue(Drum(3, 1) == Drum(3, 1))
        self.assertFalse(Drum(3, 1) != Drum(3, 1))
        for other in (Drum(3, 0), Drum(1, 3), Drum(2, 1), Drum(6, 2)):
            self.assertFalse(Drum(3, 1) == other)
            self.assertTrue(Drum(3, 1) != other)

    def test_nothing_else_is_equal(self):
        for other in [(3, 1), [3, 1], 3, "Drum(3, 1)"] + no_wholes():
            self.assertFalse(Drum(3, 1) == other)


class Turns(unittest.TestCase):

    def test_small_drums(self):
        for first in range(1, 9):
            for step in range(6):
                drum = Drum(first, step)
                cells = 0
                for turn in range(12):
                    self.assertEqual(drum.size(turn), first + turn * step)
                    self.assertEqual(drum.begins(turn), cells)
                    cells += first + turn * step

    def test_great_turns(self):
        for first, step in STEPS:
            drum = Drum(first, step)
            self.assertEqual(drum.size(GREAT), first + GREAT * step)
            self.assertEqual(2 * drum.begins(GREAT), GREAT * (2 * first + step * (GREAT - 1)))
            self.assertEqual(drum.begins(GREAT + 1) - drum.begins(GREAT), drum.size(GREAT))

    def test_no_turn(self):
        for turn in [-1, -10 ** 30] + no_wholes():
            for ask in (Drum(3, 1).size, Drum(3, 1).begins):
                with self.assertRaises(NoTurn) as caught:
                    ask(turn)
                self.assertIs(caught.exception.at, turn)


class Cells(unittest.TestCase):

    def test_small_drums(self):
        for first in range(1, 8):
            for step in list(range(6)) + [20]:
                drum = Drum(first, step)
                for cell, spot in enumerate(Roll(first, step, 60).spots):
                    self.assertEqual(drum.where(cell), spot)
                    self.assertEqual(drum.cell_at(spot[0], spot[1]), cell)
                    self.assertEqual(drum.filled(cell + 1), (spot[0], spot[1] + 1))

    def test_great_cells(self):
        for first, step in STEPS:
            drum = Drum(first, step)
            for cell in (GREAT, GREAT - 1, GREAT // 2, 10 ** 29, 10 ** 15, 10 ** 16 + 7):
                turn, place, size = drum.where(cell)
                self.assertEqual(drum.begins(turn) + place, cell)
                self.assertEqual(drum.size(turn), size)
                self.assertTrue(0 <= place < size)
                self.assertEqual(drum.cell_at(turn, place), cell)
                self.assertEqual(drum.filled(cell + 1), (turn, place + 1))

    def test_the_ends_of_great_turns(self):
        for first, step in STEPS:
            drum = Drum(first, step)
            for turn in (1, 2, 3, 10 ** 7, 10 ** 15, GREAT):
                begin = drum.begins(turn)
                size = drum.size(turn)
                self.assertEqual(drum.where(begin), (turn, 0, size))
                self.assertEqual(drum.where(begin + size - 1), (turn, size - 1, size))
                self.assertEqual(drum.where(begin - 1)[:2], (turn - 1, drum.size(turn - 1) - 1))
                self.assertEqual(drum.filled(begin), (turn - 1, drum.size(turn - 1)))
                self.assertEqual(drum.filled(begin + 1), (turn, 1))

    def test_what_is_told_may_be_handed_in(self):
        drum = Drum(10 ** 15 - 1, 10 ** 15 - 1)
        cell = drum.cell_at(GREAT, drum.size(GREAT) - 1)
        self.assertEqual(drum.where(cell)[0], GREAT)
        self.assertEqual(drum.where(drum.cell_at(cell, 5)), (cell, 5, drum.size(cell)))

    def test_no_cell(self):
        for cell in [-1, -10 ** 30] + no_wholes():
            with self.assertRaises(NoCell) as caught:
                Drum(3, 1).where(cell)
            self.assertIs(caught.exception.at, cell)

    def test_no_length(self):
        for length in [0, -1, -10 ** 30] + no_wholes():
            with self.assertRaises(NoCell) as caught:
                Drum(3, 1).filled(length)
            self.assertIs(caught.exception.at, length)

    def test_no_place(self):
        for place in [-1, 5, 6, 10 ** 30] + no_wholes():
            with self.assertRaises(NoPlace) as caught:
                Drum(3, 1).cell_at(2, place)
            self.assertIs(caught.exception.at, place)

    def test_no_turn_is_refused_ahead_of_no_place(self):
        for turn in [-1, -10 ** 30] + no_wholes():
            for place in [0, -1, 10 ** 30] + no_wholes():
                with self.assertRaises(NoTurn) as caught:
                    Drum(3, 1).cell_at(turn, place)
                self.assertIs(caught.exception.at, turn)


if __name__ == "__main__":
    unittest.main()
