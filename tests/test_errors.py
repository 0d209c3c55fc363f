"""Points 2 and 4: refusals, whole numbers, and the interface's names."""

import inspect
import unittest

from walks import no_wholes
from wetmarks import drums, errors, gaps, wholes
from wetmarks.drums import Drum

FIELDS = {
    "BadDrum": ("part",), "NoTurn": ("at",), "NoCell": ("at",), "NoPlace": ("at",),
    "BadShop": ("part", "at"), "BadPlies": ("at",), "NoFace": ("face",), "NoBeats": ("beats",),
    "BadRow": ("at",), "BadSpot": ("part",), "BadMenu": ("at",), "BadMarks": ("at",),
    "TooMany": ("many",),
}

FUNCTIONS = {
    "beneath": "drum cell", "above": "drum length cell", "pairs": "drum length",
    "pieces": "drum length", "sector": "drum cell", "share": "drum length number",
    "piece": "drum length face", "apart": "drum length one other",
    "on_way": "drum length one other many", "amid": "drum length one other third",
    "reach": "drum length face beats", "ends": "drum length face",
    "middle": "drum length face", "widest": "drum length",
}

METHODS = {
    "first": "self", "step": "self", "size": "self turn", "begins": "self turn",
    "where": "self cell", "cell_at": "self turn place", "filled": "self length",
}


def names(function):
    return " ".join(inspect.signature(function).parameters)


class Refusals(unittest.TestCase):

    def test_each_is_straight_under_wet_error(self):
        self.assertEqual(errors.WetError.__bases__, (ArithmeticError,))
        for name in FIELDS:
            self.assertEqual(getattr(errors, name).__bases__, (errors.WetError,), name)

    def test_no_other_classes_are_there(self):
        found = {name for name, thing in vars(errors).items() if isinstance(thing, type)}
        self.assertEqual(found, set(FIELDS) | {"WetError"})

    def test_each_is_made_of_its_fields(self):
        for name, fields in FIELDS.items():
            things = [object() for _ in fields]
            by_place = getattr(errors, name)(*things)
            by_name = getattr(errors, name)(**dict(zip(fields, things)))
            for field, thing in zip(fields, things):
                self.assertIs(getattr(by_place, field), thing, name)
                self.assertIs(getattr(by_name, field), thing, name)

    def test_each_is_caught_by_the_class_of_all(self):
        for name, fields in FIELDS.items():
            with self.assertRaises(errors.WetError):
                raise getattr(errors, name)(*fields)

    def test_each_takes_just_its_fields(self):
        for name, fields in FIELDS.items():
            self.assertEqual(names(getattr(errors, name)), " ".join(fields))


class Wholes(unittest.TestCase):

    def test_whole_numbers(self):
        for thing in (0, 1, -1, 10 ** 30, -10 ** 30):
            self.assertIs(wholes.is_whole(thing), True)

    def test_other_things(self):
        for thing in no_wholes():
            self.assertIs(wholes.is_whole(thing), False, repr(thing))

    def test_by_name(self):
        self.assertIs(wholes.is_whole(thing=3), True)


class Interface(unittest.TestCase):

    def test_functions_stand_in_their_files(self):
        self.assertEqual(wholes.is_whole.__module__, "wetmarks.wholes")
        for name, told in FUNCTIONS.items():
            function = getattr(gaps, name)
            self.assertEqual(function.__module__, "wetmarks.gaps")
            self.assertEqual(names(function), told, name)

    def test_classes_stand_in_their_files(self):
        self.assertEqual(drums.Drum.__module__, "wetmarks.drums")
        for name in list(FIELDS) + ["WetError"]:
            self.assertEqual(getattr(errors, name).__module__, "wetmarks.errors")

    def test_methods_stand_in_their_class(self):
        self.assertEqual(names(Drum), "first step")
        for name, told in METHODS.items():
            self.assertEqual(names(vars(Drum)[name]), told, name)

    def test_arguments_by_name(self):
        drum = Drum(step=1, first=3)
        self.assertEqual(drum, Drum(3, 1))
        self.assertEqual(drum.size(turn=2), 5)
        self.assertEqual(drum.begins(turn=2), 7)
        self.assertEqual(drum.where(cell=8), (2, 1, 5))
        self.assertEqual(drum.cell_at(place=1, turn=2), 8)
        self.assertEqual(drum.filled(length=9), (2, 2))
        self.assertEqual(gaps.beneath(cell=8, drum=drum), (3, 4))
        self.assertEqual(gaps.above(cell=3, length=9, drum=drum), (7, 8))
        self.assertEqual(gaps.pairs(length=7, drum=drum), 6)
        self.assertEqual(gaps.pieces(length=7, drum=drum), 1)
        self.assertEqual(gaps.sector(cell=8, drum=drum), (0, 8))
        self.assertEqual(gaps.share(number=0, length=9, drum=drum), 9)
        face = (0, "out")
        other = (2, "out")
        self.assertEqual(gaps.piece(face=face, length=7, drum=drum), ((0, 2), (3, 6)))
        self.assertEqual(gaps.apart(other=other, one=face, length=7, drum=drum), 4)
        self.assertEqual(gaps.on_way(many=2, other=other, one=face, length=7, drum=drum), (1, "out"))
        third = (1, "out")
        self.assertEqual(gaps.amid(third=third, other=other, one=face, length=7, drum=drum), third)
        self.assertEqual(gaps.reach(beats=0, face=face, length=7, drum=drum), ((0, 0), None))
        self.assertEqual(gaps.ends(face=face, length=7, drum=drum)[0], 6)
        self.assertEqual(gaps.middle(face=face, length=7, drum=drum), [(1, "out")])
        self.assertEqual(gaps.widest(length=7, drum=drum)[0], 6)


class Answers(unittest.TestCase):

    def test_what_is_told_is_new(self):
        drum = Drum(3, 1)
        for face in ((0, "out"), (0, "in"), (4, "out")):
            told = gaps.middle(drum, 7, face)
            kept = list(told)
            told.append("more")
            self.assertEqual(gaps.middle(drum, 7, face), kept)

    def test_the_same_question_has_the_same_answer(self):
        for drum in (Drum(4, 6), Drum(4, 6), Drum(5, 0)):
            length = 3 * drum.size(1)
            for cell in range(length):
                for side in ("in", "out"):
                    alike = Drum(drum.first(), drum.step())
                    told = gaps.ends(drum, length, (cell, side))
                    self.assertEqual(gaps.ends(alike, length, (cell, side)), told)
            self.assertEqual(gaps.widest(drum, length), gaps.widest(alike, length))

    def test_what_is_asked_of_stays_as_it_was(self):
        drum = Drum(4, 6)
        for ask in (gaps.pairs, gaps.pieces, gaps.widest):
            ask(drum, 30)
        for ask in (gaps.piece, gaps.ends, gaps.middle):
            ask(drum, 30, (5, "in"))
        self.assertEqual((drum.first(), drum.step()), (4, 6))
        self.assertEqual(drum, Drum(4, 6))

    def test_tuples_and_lists_are_such(self):
        drum = Drum(3, 1)
        face = (4, "in")
        for thing in (drum.where(3), drum.filled(3), gaps.beneath(drum, 4), gaps.above(drum, 9, 3),
                      gaps.sector(drum, 4), gaps.piece(drum, 9, face), gaps.reach(drum, 9, face, 2),
                      gaps.ends(drum, 9, face), gaps.widest(drum, 9), gaps.on_way(drum, 9, face, face, 0)):
            self.assertIs(type(thing), tuple)
        self.assertIs(type(gaps.middle(drum, 9, face)), list)


if __name__ == "__main__":
    unittest.main()
