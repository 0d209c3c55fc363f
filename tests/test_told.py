"""Points 57 to 62: what touching tells of the drum, against plain walks and the document's words."""

import copy
import inspect
import random
import unittest

from benches import no_lists
from walks import Own, Roll, as_told, no_faces, no_wholes, small_rolls
from wetmarks import told as told_file
from wetmarks.drums import Drum
from wetmarks.errors import BadDrum, BadMarks, NoBeats, NoCell, NoFace, NoTurn, TooMany
from wetmarks.gaps import beneath, pairs, reach
from wetmarks.told import alike, best_face, fits, known_from, parted, telling, told_by

MOST = 10 ** 15 - 1
GOLDEN = 618033988749894


def lies(first, step, length):
    """On what each cell of a roll lies: on cells of it, or on the drum's cell of its number."""
    roll = Roll(first, step, length)
    return [roll.on[cell] if turn else ["drum", cell] for cell, (turn, _, _) in enumerate(roll.spots)]


def by_the_words(first, low, high):
    """Point 57's own words, of drums of the same first, and of the lesser and the greater step."""
    for p in range(first + low):
        for n in range(first + 2):
            above = n * (first + high) > p * first and n * (first + low) <= p * first
            below = n * (first + high) >= (p + 1) * first and n * (first + low) < (p + 1) * first
            if above or below:
                return first + p
    return first + first + low


def least_bottom(is_below, is_inside):
    """The least bottom of a fraction that is inside, going down the tree of all fractions by leaps."""
    left, right = (0, 1), (1, 0)
    while True:
        middle = (left[0] + right[0], left[1] + right[1])
        if is_inside(*middle):
            return middle[1]
        goes_right = is_below(*middle)
        start, way = (left, right) if goes_right else (right, left)
        leaps = 1
        while still_goes(start, way, 2 * leaps, goes_right, is_below, is_inside):
            leaps *= 2
        step = leaps
        while step:
            if still_goes(start, way, leaps + step, goes_right, is_below, is_inside):
                leaps += step
            step //= 2
        moved = (start[0] + leaps * way[0], start[1] + leaps * way[1])
        left, right = (moved, right) if goes_right else (left, moved)


def still_goes(start, way, leaps, goes_right, is_below, is_inside):
    """Whether so many leaps from a fraction still lie on the same side of what is inside."""
    top, bottom = start[0] + leaps * way[0], start[1] + leaps * way[1]
    return not is_inside(top, bottom) and is_below(top, bottom) == goes_right


def own_parted(first, low, high):
    """What by_the_words tells, of numbers however great."""
    def from_high(n, q):
        return n * (first + high) >= q * first

    def till_low(n, q):
        return n * (first + low) <= q * first

    def above_high(n, q):
        return n * (first + high) > q * first

    def below_low(n, q):
        return n * (first + low) < q * first

    begins = least_bottom(lambda n, q: not above_high(n, q), lambda n, q: above_high(n, q) and till_low(n, q))
    ends = least_bottom(lambda n, q: not from_high(n, q), lambda n, q: from_high(n, q) and below_low(n, q))
    return first + min(begins, ends - 1, first + low)


class Parted(unittest.TestCase):

    def test_small_drums(self):
        drums = [(first, step) for first in (1, 2, 3, 5, 6) for step in (0, 1, 2, 3, 4, 7, 12)]
        laid = {told: lies(*told, 34) for told in drums}
        for one in drums:
            for other in drums:
                told = parted(Drum(*one), Drum(*other))
                if one == other:
                    self.assertIs(told, None)
                else:
                    self.assertEqual(told, [a == b for a, b in zip(laid[one], laid[other])].index(False))

    def test_by_the_words_of_the_document(self):
        for first in range(1, 15):
            for low in range(12):
                for high in range(low + 1, 14):
                    told = by_the_words(first, low, high)
                    self.assertEqual(parted(Drum(first, low), Drum(first, high)), told)
                    self.assertEqual(parted(Drum(first, high), Drum(first, low)), told)
                    self.assertEqual(own_parted(first, low, high), told)

    def test_unlike_firsts(self):
        for one, other in ((1, 2), (7, 3), (10 ** 14, MOST), (MOST, MOST - 1)):
            for step in (0, 1, MOST):
                self.assertEqual(parted(Drum(one, step), Drum(other, step)), min(one, other))
                self.assertEqual(parted(Drum(one, 0), Drum(other, step)), min(one, other))

    def test_equal_drums(self):
        for first, step in ((1, 0), (MOST, MOST), (6, 4)):
            self.assertIs(parted(Drum(first, step), Drum(first, step)), None)

    def test_great_drums(self):
        chance = random.Random(57)
        for _ in range(400):
            first = chance.choice((chance.randint(1, 999), chance.randint(1, MOST), MOST))
            low = chance.choice((0, 1, chance.randint(0, MOST - 2), MOST - 2))
            high = chance.choice((low + 1, low + 1, low + 2, chance.randint(low + 1, MOST), MOST))
            one, other = Drum(first, low), Drum(first, high)
            told = parted(one, other)
            self.assertEqual(told, own_parted(first, low, high))
            self.assertEqual(parted(other, one), told)
            self.assertNotEqual(beneath(one, told), beneath(other, told))
            for _ in range(9):
                cell = chance.randrange(first, told) if told > first else first - 1
                self.assertEqual(beneath(one, cell), beneath(other, cell))

    def test_steps_near_to_one_another(self):
        # Far from fractions of small bottoms it is long till a whole number is between.
        told = parted(Drum(MOST, GOLDEN), Drum(MOST, GOLDEN + 1))
        self.assertGreater(told, MOST + 10 ** 7)
        self.assertEqual(told, own_parted(MOST, GOLDEN, GOLDEN + 1))
        self.assertEqual(parted(Drum(MOST, MOST - 1), Drum(MOST, MOST)), MOST + 1)
        self.assertEqual(parted(Drum(5, 0), Drum(5, 1)), 6)
        self.assertEqual(parted(Drum(MOST, 0), Drum(MOST, 1)), MOST + 1)
        self.assertEqual(parted(Drum(1, MOST - 1), Drum(1, MOST)), 1 + MOST)

    def test_alike(self):
        for one in ((3, 1), (3, 2), (2, 2), (4, 0)):
            for other in ((3, 1), (3, 3), (5, 1), (4, 4)):
                for length in range(1, 30):
                    told = lies(*one, length) == lies(*other, length)
                    self.assertIs(alike(Drum(*one), Drum(*other), length), told)

    def test_alike_has_the_same_touches(self):
        one, other = Drum(6, 4), Drum(6, 5)
        cell = parted(one, other)
        self.assertIs(alike(one, other, cell), True)
        self.assertIs(alike(one, other, cell + 1), False)
        self.assertEqual(pairs(one, cell), pairs(other, cell))
        one, other = Drum(MOST, GOLDEN), Drum(MOST, GOLDEN + 1)
        cell = parted(one, other)
        for length, told in ((1, True), (cell, True), (cell + 1, False), (10 ** 30 - 1, False)):
            self.assertIs(alike(one, other, length), told)
            self.assertIs(alike(one, one, length), True)


class Sightings(unittest.TestCase):

    def seen(self, first, step, length, face, beats):
        """What a walk sees: the faces that have ink behind so many beats, as a sighting."""
        roll = Roll(first, step, length)
        return (length, face, beats) + as_told([one for one, far in roll.far[face].items() if far <= beats])

    def some_sightings(self, first, step, many, chance):
        told = []
        for _ in range(many):
            length = chance.randint(1, 24)
            face = (chance.randrange(length), chance.choice(("in", "out")))
            told.append(self.seen(first, step, length, face, chance.choice((0, 1, 2, 3, 4, 99))))
        return told

    def test_fits(self):
        chance = random.Random(59)
        drums = [(first, step) for first in range(1, 6) for step in range(5)]
        for first, step in drums:
            told = self.some_sightings(first, step, 6, chance)
            self.assertIs(fits(Drum(first, step), told), None)
            for other in drums:
                place = None
                for at, (length, face, beats, _, _) in enumerate(told):
                    if place is None and self.seen(*other, length, face, beats) != told[at]:
                        place = at
                self.assertEqual(fits(Drum(*other), told), place)

    def test_told_by(self):
        chance = random.Random(60)
        for first, step in ((1, 0), (3, 1), (4, 2), (6, 0), (2, 5)):
            for many in (1, 2, 5):
                told = self.some_sightings(first, step, many, chance)
                own = []
                for f in range(1, 8):
                    for s in range(6):
                        if all(self.seen(f, s, *one[:3]) == one for one in told):
                            own.append((f, s))
                self.assertEqual(told_by(told, 7, 5), own)
                self.assertIn((first, step), own)
                self.assertEqual(told_by(told, 5, 2), [one for one in own if one[0] < 6 and one[1] < 3])

    def test_sightings_by_none(self):
        drum = Drum(4, 2)
        for beats in (0, 1, 10 ** 30 - 1):
            self.assertIs(fits(drum, [(3, (2, "in"), beats, None, (2, 2)), (3, (2, "out"), beats, (2, 2), None)]), None)
            self.assertEqual(fits(drum, [(3, (2, "in"), beats, None, None)]), 0)
            self.assertEqual(fits(drum, [(3, (2, "in"), beats, (2, 2), (2, 2))]), 0)
        self.assertEqual(fits(drum, [(3, (2, "in"), 1, None, (-2, 10 ** 30))]), 0)
        self.assertEqual(told_by([(3, (2, "in"), 1, None, None)], 100, 100), [])

    def test_bounds(self):
        lone = [(1, (0, "out"), 5, (0, 0), None)]
        self.assertEqual(told_by(lone, 1, 0), [(1, 0)])
        self.assertEqual(told_by(lone, 100, 100), [(f, s) for f in range(1, 101) for s in range(101)])
        drum = Drum(100, 100)
        sighting = (400, (150, "in"), 7) + reach(drum, 400, (150, "in"), 7)
        self.assertIn((100, 100), told_by([sighting] * 40, 100, 100))
        self.assertEqual(told_by([sighting] * 40, 99, 100), [])

    def test_great_numbers(self):
        drum = Drum(MOST, MOST - 4)
        length = 10 ** 30 - 1
        told = []
        for cell in (0, MOST, 10 ** 18, length - 10 ** 12, length - 1):
            for side in ("in", "out"):
                told.append((length, (cell, side), 10 ** 9) + reach(drum, length, (cell, side), 10 ** 9))
        self.assertIs(fits(drum, told), None)
        self.assertEqual(fits(Drum(MOST, MOST - 3), told), min(
            at for at, one in enumerate(told) if reach(Drum(MOST, MOST - 3), *one[:3]) != one[3:]))


class Telling(unittest.TestCase):

    def own_groups(self, drums, length, face, beats):
        groups = {}
        for at, told in enumerate(drums):
            far = Roll(*told, length).far[face]
            seen = tuple(sorted(one for one in far if far[one] <= beats))
            groups.setdefault(seen, []).append(at)
        return sorted(groups.values())

    def test_telling_and_best_face(self):
        chance = random.Random(61)
        for length in (1, 5, 9, 14):
            drums = [(chance.randint(1, 5), chance.randint(0, 4)) for _ in range(9)]
            given = [Drum(*told) for told in drums]
            for beats in (0, 1, 2, 3, 50):
                most = []
                for face in [(cell, side) for cell in range(length) for side in ("in", "out")]:
                    groups = self.own_groups(drums, length, face, beats)
                    self.assertEqual(telling(given, length, face, beats), groups)
                    most.append((max(map(len, groups)), face))
                many, face = min(most)
                self.assertEqual(best_face(given, length, beats), (face, many))

    def test_one_drum_and_forty(self):
        drum = Drum(3, 1)
        self.assertEqual(telling([drum], 8, (4, "in"), 2), [[0]])
        self.assertEqual(best_face([drum], 8, 2), ((0, "in"), 1))
        self.assertEqual(telling([drum] * 40, 8, (4, "in"), 2), [list(range(40))])
        self.assertEqual(best_face([drum, Drum(3, 1)] * 20, 8, 2), ((0, "in"), 40))

    def test_two_hundred_cells_and_great_lengths(self):
        drums = [Drum(90, 1), Drum(90, 2), Drum(100, 0)]
        face, many = best_face(drums, 200, 10 ** 30 - 1)
        self.assertEqual(many, max(len(group) for group in telling(drums, 200, face, 10 ** 30 - 1)))
        great = [Drum(MOST, MOST), Drum(MOST, MOST - 1), Drum(MOST, MOST)]
        self.assertEqual(telling(great, 10 ** 30 - 1, (10 ** 20, "in"), 10 ** 29), [[0, 2], [1]])

    def test_telling_by_no_beats(self):
        drums = [Drum(2, 1), Drum(3, 1)]
        self.assertEqual(telling(drums, 6, (4, "in"), 0), [[0, 1]])
        self.assertEqual(telling(drums, 6, (2, "in"), 1), [[0], [1]])


class KnownFrom(unittest.TestCase):

    def test_small_drums(self):
        for first, step in ((1, 0), (2, 1), (3, 3), (5, 2), (9, 0), (2, 9)):
            mine = lies(first, step, 60)
            for most_first, most_step in ((1, 0), (1, 3), (3, 0), (4, 4), (6, 2)):
                latest = 0
                for f in range(1, most_first + 1):
                    for s in range(most_step + 1):
                        if (f, s) != (first, step):
                            same = [a == b for a, b in zip(mine, lies(f, s, 60))]
                            latest = max(latest, same.index(False) + 1)
                told = known_from(Drum(first, step), most_first, most_step)
                self.assertEqual(told, latest or 1)

    def test_no_others(self):
        self.assertEqual(known_from(Drum(1, 0), 1, 0), 1)
        self.assertEqual(known_from(Drum(2, 0), 1, 0), 2)
        self.assertEqual(known_from(Drum(1, 1), 1, 0), 3)

    def test_bounds_of_a_hundred(self):
        for first, step in ((100, 100), (50, 0), (1, 0), (MOST, MOST)):
            drum = Drum(first, step)
            told = known_from(drum, 100, 100)
            others = [Drum(f, s) for f in range(1, 101) for s in range(101) if (f, s) != (first, step)]
            self.assertFalse([other for other in others if alike(drum, other, told)])
            self.assertTrue([other for other in others if alike(drum, other, told - 1)])


class ByName(unittest.TestCase):

    def test_by_name(self):
        one, other, face = Drum(2, 1), Drum(2, 2), (3, "in")
        told = [(4, face, 1) + reach(one, 4, face, 1)]
        self.assertEqual(parted(other=other, one=one), parted(one, other))
        self.assertIs(alike(length=2, other=other, one=one), True)
        self.assertIs(fits(sightings=told, drum=one), None)
        self.assertIn((2, 1), told_by(step=3, first=2, sightings=told))
        self.assertEqual(telling(beats=1, face=face, length=4, drums=[one]), [[0]])
        self.assertEqual(best_face(beats=1, length=4, drums=[one]), ((0, "in"), 1))
        self.assertEqual(known_from(step=0, first=1, drum=Drum(1, 0)), 1)


class Interface(unittest.TestCase):

    def test_functions_stand_in_their_file(self):
        names = {"parted": "one other", "alike": "one other length", "fits": "drum sightings",
                 "told_by": "sightings first step", "telling": "drums length face beats",
                 "best_face": "drums length beats", "known_from": "drum first step"}
        for name, handed in names.items():
            function = getattr(told_file, name)
            self.assertEqual(function.__module__, "wetmarks.told")
            self.assertEqual(" ".join(inspect.signature(function).parameters), handed)


class Answers(unittest.TestCase):

    def setUp(self):
        self.drums = [Drum(3, 1), Drum(3, 2), Drum(4, 0), Drum(3, 1)]
        self.sightings = [(7, (4, "in"), 1) + reach(self.drums[0], 7, (4, "in"), 1)]

    def test_the_same_question_has_the_same_answer(self):
        for _ in range(2):
            self.assertEqual(telling(self.drums, 7, (4, "in"), 1), telling(list(self.drums), 7, (4, "in"), 1))
            self.assertEqual(best_face(self.drums, 7, 1), best_face(list(self.drums), 7, 1))
            self.assertEqual(told_by(self.sightings, 5, 5), told_by(list(self.sightings), 5, 5))
            self.assertEqual(fits(Drum(4, 0), self.sightings), fits(self.drums[2], list(self.sightings)))

    def test_what_is_told_is_new(self):
        for ask, handed in ((telling, (self.drums, 7, (4, "in"), 1)), (told_by, (self.sightings, 5, 5))):
            told = ask(*handed)
            kept = copy.deepcopy(told)
            for group in told:
                if isinstance(group, list):
                    group.append("more")
            told.append("more")
            self.assertEqual(ask(*handed), kept)
            self.assertEqual(repr(ask(*handed)), repr(kept))

    def test_what_is_handed_in_stays_as_it_was(self):
        drums, sightings = list(self.drums), copy.deepcopy(self.sightings)
        telling(drums, 7, (4, "in"), 1)
        best_face(drums, 7, 1)
        told_by(sightings, 5, 5)
        fits(drums[1], sightings)
        self.assertEqual((drums, sightings), (self.drums, self.sightings))

    def test_a_list_that_was_changed_is_another_one(self):
        before = telling(self.drums, 7, (4, "in"), 1)
        self.drums.append(self.drums[0])
        self.assertNotEqual(telling(self.drums, 7, (4, "in"), 1), before)
        self.assertIs(fits(Drum(3, 1), self.sightings), None)
        self.sightings.append((7, (4, "in"), 1, None, None))
        self.assertEqual(fits(Drum(3, 1), self.sightings), 1)
        self.assertEqual(told_by(self.sightings, 5, 5), [])

    def test_kinds_of_what_is_told(self):
        self.assertIs(type(parted(self.drums[0], self.drums[1])), int)
        self.assertIs(type(alike(self.drums[0], self.drums[1], 2)), bool)
        self.assertIs(type(fits(self.drums[2], self.sightings)), int)
        self.assertEqual({type(one) for one in told_by(self.sightings, 5, 5)}, {tuple})
        self.assertEqual({type(one) for one in telling(self.drums, 7, (4, "in"), 1)}, {list})
        self.assertEqual([type(one) for one in best_face(self.drums, 7, 1)], [tuple, int])
        self.assertIs(type(known_from(self.drums[0], 5, 5)), int)


class Refused(unittest.TestCase):

    def setUp(self):
        self.drum = Drum(4, 2)
        self.face = (5, "in")
        self.good = (9, self.face, 1) + reach(self.drum, 9, self.face, 1)
        self.no_drums = no_wholes() + [0, 1, (4, 2), [Drum(4, 2)], Drum, "drum"]

    def refused(self, error, told, ask, *arguments):
        with self.assertRaises(error) as caught:
            ask(*arguments)
        self.assertIs(type(caught.exception), error)
        field = {BadDrum: "part", NoCell: "at", NoFace: "face", NoBeats: "beats", BadMarks: "at",
                 NoTurn: "at", TooMany: "many"}[error]
        if error in (BadDrum, BadMarks, TooMany):
            self.assertEqual(getattr(caught.exception, field), told)
        else:
            self.assertIs(getattr(caught.exception, field), told)

    def test_no_drum(self):
        for thing in self.no_drums:
            self.refused(BadDrum, "one", parted, thing, self.drum)
            self.refused(BadDrum, "one", parted, thing, thing)
            self.refused(BadDrum, "other", parted, self.drum, thing)
            for length in (9, None, -1):
                self.refused(BadDrum, "one", alike, thing, self.drum, length)
                self.refused(BadDrum, "one", alike, thing, thing, length)
                self.refused(BadDrum, "other", alike, self.drum, thing, length)
            for sightings in ([self.good], None, []):
                self.refused(BadDrum, "drum", fits, thing, sightings)
            for first, step in ((1, 0), (None, None), (0, -1)):
                self.refused(BadDrum, "drum", known_from, thing, first, step)

    def test_no_drums(self):
        for thing in no_lists() + [[], (self.drum,), {0: self.drum}, self.drum, [self.drum] * 41]:
            self.no_list_of_drums(thing)
        for thing in no_wholes() + [0, (4, 2), [self.drum]]:
            self.no_list_of_drums([thing])
            self.no_list_of_drums([self.drum, thing])

    def no_list_of_drums(self, thing):
        for length, face, beats in ((9, self.face, 1), (None, None, None), (0, (), -1)):
            self.refused(BadDrum, "drums", telling, thing, length, face, beats)
            self.refused(BadDrum, "drums", best_face, thing, length, beats)

    def test_no_length(self):
        for length in [0, -1, -10 ** 30] + no_wholes():
            self.refused(NoCell, length, alike, self.drum, self.drum, length)
            self.refused(NoCell, length, alike, self.drum, Drum(1, 0), length)
            for face, beats in ((self.face, 1), (None, None), ((), -1)):
                self.refused(NoCell, length, telling, [self.drum], length, face, beats)
                self.refused(NoCell, length, best_face, [self.drum], length, beats)

    def test_no_face(self):
        for face in no_faces(9):
            for beats in (1, None, -1):
                self.refused(NoFace, face, telling, [self.drum], 9, face, beats)

    def test_too_many_cells(self):
        for length in (201, 202, 10 ** 30):
            for beats in (1, None, -1):
                self.refused(TooMany, 200, best_face, [self.drum], length, beats)
        self.assertEqual(best_face([self.drum], 200, 1), ((0, "in"), 1))

    def test_no_beats(self):
        for beats in [-1, -10 ** 30] + no_wholes():
            self.refused(NoBeats, beats, telling, [self.drum], 9, self.face, beats)
            self.refused(NoBeats, beats, best_face, [self.drum], 9, beats)

    def no_sightings(self):
        """Tuples (thing, at) of what are no sightings, and where."""
        length, face, beats, lowers, uppers = self.good
        amiss = no_wholes() + [0, -1, self.good[:4], self.good + (1,), list(self.good), {0: self.good}]
        amiss += [(thing,) + self.good[1:] for thing in [0, -1, 5] + no_wholes()]
        amiss += [(length, thing, beats, lowers, uppers) for thing in no_faces(9)]
        amiss += [(length, face, thing, lowers, uppers) for thing in [-1, -10 ** 30] + no_wholes()]
        for thing in [0, -1, (1,), (1, 2, 3), (1, None), (None, 1), (True, 1), (1, False), [1, 2], {1: 2},
                      (1, "1"), ((1, 2), 3), (Own(), 1), Own(), "12", b"12"]:
            amiss += [(length, face, beats, thing, uppers), (length, face, beats, lowers, thing)]
        told = [(thing, -1) for thing in no_lists() + [[], (self.good,), self.good, [self.good] * 41]]
        for thing in amiss:
            told += [([thing], 0), ([self.good, self.good, thing], 2), ([self.good, thing, thing], 1)]
        return told

    def test_no_sightings(self):
        for thing, at in self.no_sightings():
            self.refused(BadMarks, at, fits, self.drum, thing)
            for first, step in ((1, 0), (None, None), (0, -1)):
                self.refused(BadMarks, at, told_by, thing, first, step)
        self.assertIs(fits(self.drum, [self.good] * 40), None)

    def test_no_first_and_no_step(self):
        for first in [0, -1, 101, 10 ** 30] + no_wholes():
            for step in (0, -1, None):
                self.refused(NoTurn, first, told_by, [self.good], first, step)
                self.refused(NoTurn, first, known_from, self.drum, first, step)
        for step in [-1, 101, 10 ** 30] + no_wholes():
            self.refused(NoTurn, step, told_by, [self.good], 1, step)
            self.refused(NoTurn, step, known_from, self.drum, 1, step)


class SmallRolls(unittest.TestCase):

    def test_reach_tells_drums_apart_just_where_a_walk_does(self):
        for first, step, length in small_rolls():
            if length in (7, 12):
                roll, face = Roll(first, step, length), (length - 1, "in")
                told = as_told([one for one, far in roll.far[face].items() if far <= 2])
                self.assertIs(fits(Drum(first, step), [(length, face, 2) + told]), None)


if __name__ == "__main__":
    unittest.main()
