"""Points 29 to 34: rows of deeds, spots, ways and walls, against the test's own walk."""

import random
import unittest
from itertools import permutations

from benches import (Bench, no_deeds, no_lists, no_rows, no_shop_faces, no_spots, small_benches,
                     some_rows, some_spots, total)
from walks import Own, no_wholes
from wetmarks.drums import Drum
from wetmarks.errors import BadRow, BadSpot, NoFace
from wetmarks.rows import bare, is_way, marks, plain, shows, shuts_off, way
from wetmarks.shops import Shop


def own_plain(row):
    told = []
    for deed in row:
        if deed[-1] > 0 and told and told[-1][:-1] == deed[:-1]:
            told[-1] = deed[:-1] + (told[-1][-1] + deed[-1],)
        elif deed[-1] > 0:
            told.append(deed)
    return told


class SmallRows(unittest.TestCase):
    """Each test holds one function against the test's own walk, beat by beat."""

    @classmethod
    def setUpClass(cls):
        cls.rows = [(bench, row) for bench in small_benches() for row in some_rows(bench, 20)]
        cls.cases = [(bench, row, spot) for bench, row in cls.rows for spot in some_spots(bench, row, 8)]

    def test_plain(self):
        for bench, row in self.rows:
            told = plain(bench.shop, row)
            self.assertEqual(told, own_plain(row))
            self.assertEqual(plain(bench.shop, told), told)
            self.assertEqual(total(told), total(row))

    def test_shows(self):
        for bench, row, spot in self.cases:
            self.assertEqual(shows(bench.shop, row, spot), bench.shown(row, spot))

    def test_ink_goes_on(self):
        # The cases would hold little if ink seldom went by several deeds.
        walks = [bench.walk(row, spot) for bench, row, spot in self.cases]
        self.assertTrue(sum(1 for walk in walks if len(walk) > 5) > 100)
        self.assertTrue(sum(1 for walk in walks if len(set(walk.values())) > 3) > 100)

    def test_marks_and_bare(self):
        for bench, row in self.rows:
            for many in (0, 1, 3, 9):
                spots = some_spots(bench, row, 9)[:many]
                walks = [bench.walk(row, spot) for spot in spots]
                told = [(face, [n for n, walk in enumerate(walks) if face in walk]) for face in bench.faces]
                self.assertEqual(marks(bench.shop, row, spots), [pair for pair in told if pair[1]])
                self.assertEqual(bare(bench.shop, row, spots), [face for face, on in told if not on])

    def test_of_a_row_and_its_plain_form_the_same_is_shown(self):
        for bench, row, spot in self.cases:
            told = shows(bench.shop, row, spot)
            self.assertEqual(shows(bench.shop, plain(bench.shop, row), spot), told)

    def test_a_spot_that_is_wet_for_longer(self):
        for bench, row, (face, moment, _) in self.cases:
            left = total(row) - moment
            told = [set(shows(bench.shop, row, (face, moment, wet))) for wet in range(left + 3)]
            for less, more in zip(told, told[1:]):
                self.assertLessEqual(less, more)
            self.assertEqual(told[left], told[left + 2])
            self.assertEqual(set(shows(bench.shop, row, (face, moment, 10 ** 30 - 1))), told[left])

    def test_spots_do_not_hinder_one_another(self):
        for bench, row in self.rows:
            spots = some_spots(bench, row, 6)
            alone = [dict(marks(bench.shop, row, [spot])) for spot in spots]
            for face, numbers in marks(bench.shop, row, spots):
                self.assertEqual(numbers, [n for n, told in enumerate(alone) if face in told])

    def test_each_way_told_is_one(self):
        for bench, row, spot in self.cases:
            has = bench.walk(row, spot)
            for face in bench.faces:
                told = way(bench.shop, row, spot, face)
                if face not in has:
                    self.assertIs(told, None)
                    continue
                self.assertIs(type(told), list)
                self.assertEqual(told[-1], (face, has[face]))
                self.assertTrue(bench.is_way(row, spot, face, told))
                self.assertIs(is_way(bench.shop, row, spot, face, told), True)

    def test_what_shows_tells_is_walls(self):
        for bench, row, spot in self.cases:
            told = shows(bench.shop, row, spot)
            self.assertIs(shuts_off(bench.shop, row, spot, told), True)
            self.assertIs(shuts_off(bench.shop, row, spot, told[::-1]), True)
            whole = [(face, 0) for face in bench.faces]
            self.assertIs(shuts_off(bench.shop, row, spot, whole), True)


class Spoiled(unittest.TestCase):
    """Ways and walls that are amiss, judged by the test's own look at the words."""

    @classmethod
    def setUpClass(cls):
        cls.chance = random.Random(32)
        cls.cases = []
        for bench in small_benches()[2:]:
            for row in some_rows(bench, 12):
                cls.cases += [(bench, row, spot) for spot in some_spots(bench, row, 9)]

    def spoiled(self, bench, told):
        """The told list with one thing in it changed, some of them still what they were."""
        at = self.chance.randrange(len(told))
        face, moment = told[at]
        other = self.chance.choice(bench.faces)
        yield told[:at] + told[at + 1:]
        for pair in ((face, moment + 1), (face, moment + 2), (face, max(0, moment - 1)), (face, 0),
                     (other, moment), (face, 10 ** 30)):
            yield told[:at] + [pair] + told[at + 1:]
        yield told[:at] + [told[at]] + told[at:]
        yield told + [(other, told[-1][1] + 1)]
        yield told[:at] + [(other, moment)] + told[at:]
        yield told[::-1]

    def test_ways(self):
        judged = []
        for bench, row, spot in self.cases:
            for face in [shown for shown, _ in bench.shown(row, spot)][::3]:
                told = way(bench.shop, row, spot, face)
                for thing in self.spoiled(bench, told):
                    right = bench.is_way(row, spot, face, thing)
                    self.assertIs(is_way(bench.shop, row, spot, face, thing), right)
                    judged.append(right)
                for other in bench.faces[::5]:
                    self.assertIs(is_way(bench.shop, row, spot, other, told), other == face)
        self.assertTrue(judged.count(True) > 50 and judged.count(False) > 1000)

    def test_ways_about(self):
        judged = []
        for bench, row, spot in self.cases:
            beats = bench.beats(row)
            for _ in range(6):
                thing = [spot[:2]]
                for moment in range(spot[1] + 1, len(beats) + 1):
                    near = beats[moment - 1].get(thing[-1][0], [])
                    if near and self.chance.random() < 0.7:
                        thing.append((self.chance.choice(near), moment))
                right = thing[-1][1] <= spot[1] + spot[2]
                self.assertIs(bench.is_way(row, spot, thing[-1][0], thing), right)
                self.assertIs(is_way(bench.shop, row, spot, thing[-1][0], thing), right)
                judged.append(right and len(thing) > 2)
        self.assertTrue(judged.count(True) > 50)

    def test_walls(self):
        judged = []
        for bench, row, spot in self.cases:
            told = shows(bench.shop, row, spot)
            for thing in self.spoiled(bench, told):
                right = bench.shuts_off(row, spot, thing)
                self.assertIs(shuts_off(bench.shop, row, spot, thing), right)
                judged.append(right)
                if right:
                    self.hold_off(bench, row, spot, thing)
        self.assertTrue(judged.count(True) > 300 and judged.count(False) > 1000)

    def test_walls_with_more_in_them(self):
        judged = []
        for bench, row, spot in self.cases:
            told = shows(bench.shop, row, spot)
            rest = [face for face in bench.faces if face not in dict(told)]
            last = total(row)
            for _ in range(4):
                more = self.chance.sample(rest, min(len(rest), self.chance.randint(0, 4)))
                thing = [(face, max(0, moment - self.chance.randint(0, 1))) for face, moment in told]
                thing += [(face, self.chance.randint(0, last + 1)) for face in more]
                right = bench.shuts_off(row, spot, thing)
                self.assertIs(shuts_off(bench.shop, row, spot, thing), right)
                judged.append(right)
                if right:
                    self.hold_off(bench, row, spot, thing)
        self.assertTrue(judged.count(True) > 100 and judged.count(False) > 100)

    def hold_off(self, bench, row, spot, thing):
        """No face ever has the spot that isn't in walls, and none ahead of its moment."""
        told = dict(thing)
        for face, moment in bench.walk(row, spot).items():
            self.assertIn(face, told)
            self.assertLessEqual(told[face], moment)

    def test_what_is_no_list_of_faces_with_moments(self):
        bench = small_benches()[3]
        row = [("roll", 1, [(1, "head", "back"), (0, "tail", "front")], 3), ("open", 1)]
        spot = (("strip", 1, 1, "back"), 1, 2)
        face = ("strip", 1, 1, "back")
        good = way(bench.shop, row, spot, face)
        walls = shows(bench.shop, row, spot)
        self.assertEqual(good, [(face, 1)])
        things = no_lists() + [tuple(good), tuple(walls), {face: 1}, [None], [face], [[face, 1]], [(face,)],
                               [(face, 1, 1)], [(1, face)], [()], [[]], [Own()], good[0], face]
        things += [[(thing, 1)] for thing in no_shop_faces(bench)]
        things += [[(face, thing)] for thing in no_wholes() + [-1]]
        for thing in things:
            self.assertIs(is_way(bench.shop, row, spot, face, thing), False, repr(thing))
            self.assertIs(shuts_off(bench.shop, row, spot, thing), False, repr(thing))
            if isinstance(thing, list):
                self.assertIs(is_way(bench.shop, row, spot, face, good + thing), False)
                self.assertIs(is_way(bench.shop, row, spot, face, thing + good), False)
                self.assertIs(shuts_off(bench.shop, row, spot, walls + thing), False)
                self.assertIs(shuts_off(bench.shop, row, spot, thing + walls), False)

    def test_empty_lists(self):
        bench = small_benches()[0]
        spot = (bench.faces[0], 0, 0)
        self.assertIs(is_way(bench.shop, [], spot, bench.faces[0], []), False)
        self.assertIs(shuts_off(bench.shop, [], spot, []), False)
        self.assertIs(is_way(bench.shop, [], spot, bench.faces[0], [(bench.faces[0], 0)]), True)
        self.assertIs(shuts_off(bench.shop, [], spot, [(bench.faces[0], 0)]), True)

    def test_walls_need_the_spots_face_in_time(self):
        bench = small_benches()[0]
        face = bench.faces[-1]
        for moment, right in ((-1, False), (0, True), (1, True), (2, True), (3, False), (10 ** 30, False)):
            thing = [(face, moment)]
            self.assertIs(shuts_off(bench.shop, [("open", 4)], (face, 2, 9), thing), right)

    def test_no_face_stands_twice_in_walls(self):
        bench = small_benches()[0]
        face = bench.faces[-1]
        for thing in ([(face, 0), (face, 0)], [(face, 0), (face, 1)]):
            self.assertIs(shuts_off(bench.shop, [], (face, 0, 9), thing), False)


class ByHand(unittest.TestCase):
    """A few answers written out by hand."""

    def setUp(self):
        # On drum 0 each cell lies on the cell ahead alone, on drum 1 all lie on the drum.
        self.shop = Shop([Drum(1, 0), Drum(9, 0)], [4, 2])
        self.row = [("roll", 0, [(0, "head", "back")], 2), ("roll", 1, [(0, "tail", "back")], 1),
                    ("roll", 1, [(0, "head", "back")], 3)]
        self.face = ("strip", 0, 0, "back")

    def test_shows(self):
        told = [(("drum", 0, 0, "out"), 1), (("drum", 1, 0, "out"), 4), (("drum", 1, 3, "out"), 3),
                (self.face, 0), (("strip", 0, 3, "back"), 4)]
        for wet in (4, 5, 6, 7, 10 ** 30 - 1):
            self.assertEqual(shows(self.shop, self.row, (self.face, 0, wet)), told)

    def test_a_spot_that_dries(self):
        drum, other = (("drum", 0, 0, "out"), 1), (("drum", 1, 3, "out"), 3)
        self.assertEqual(shows(self.shop, self.row, (self.face, 0, 3)), [drum, other, (self.face, 0)])
        self.assertEqual(shows(self.shop, self.row, (self.face, 0, 2)), [drum, (self.face, 0)])
        self.assertEqual(shows(self.shop, self.row, (self.face, 0, 1)), [drum, (self.face, 0)])
        self.assertEqual(shows(self.shop, self.row, (self.face, 0, 0)), [(self.face, 0)])

    def test_a_spot_at_the_last_moment(self):
        for wet in (0, 1, 10 ** 30 - 1):
            self.assertEqual(shows(self.shop, self.row, (self.face, 6, wet)), [(self.face, 6)])
            self.assertEqual(shows(self.shop, [], (self.face, 0, wet)), [(self.face, 0)])

    def test_a_spot_put_amid_a_deed(self):
        self.assertEqual(shows(self.shop, self.row, (self.face, 1, 2)), [
            (("drum", 0, 0, "out"), 2), (("drum", 1, 3, "out"), 3), (self.face, 1)])
        self.assertEqual(shows(self.shop, self.row, (self.face, 5, 1)), [
            (("drum", 1, 0, "out"), 6), (self.face, 5)])

    def test_way(self):
        to = ("strip", 0, 3, "back")
        told = [(self.face, 0), (("drum", 1, 3, "out"), 3), (to, 4)]
        self.assertEqual(way(self.shop, self.row, (self.face, 0, 4), to), told)
        self.assertIs(way(self.shop, self.row, (self.face, 0, 3), to), None)
        self.assertEqual(way(self.shop, self.row, (self.face, 0, 0), self.face), [(self.face, 0)])
        # A way may dally, and come later than the first moment, while it is wet.
        for later in (5, 6):
            thing = told[:2] + [(to, later)]
            self.assertIs(is_way(self.shop, self.row, (self.face, 0, 6), to, thing), True)
            self.assertIs(is_way(self.shop, self.row, (self.face, 0, 4), to, thing), False)
        self.assertIs(is_way(self.shop, self.row, (self.face, 0, 9), to, told[:2] + [(to, 7)]), False)
        self.assertIs(is_way(self.shop, self.row, (self.face, 0, 9), to, told), True)
        self.assertIs(is_way(self.shop, self.row, (self.face, 0, 9), self.face, told), False)

    def test_marks_and_bare(self):
        spots = [(self.face, 0, 1), (("drum", 0, 0, "out"), 1, 1), (self.face, 0, 1)]
        self.assertEqual(marks(self.shop, self.row, spots), [
            (("drum", 0, 0, "out"), [0, 1, 2]), (self.face, [0, 1, 2])])
        self.assertEqual(bare(self.shop, self.row, spots), [
            face for face in self.shop.faces() if face not in (("drum", 0, 0, "out"), self.face)])
        self.assertEqual(marks(self.shop, self.row, []), [])
        self.assertEqual(bare(self.shop, self.row, []), self.shop.faces())
        forty = marks(self.shop, self.row, [(self.face, 6, 0)] * 40)
        self.assertEqual(forty, [(self.face, list(range(40)))])

    def test_plain(self):
        one, other = [(0, "head", "back")], [(0, "head", "front")]
        row = [("open", 0), ("roll", 0, one, 2), ("roll", 1, one, 0), ("roll", 0, list(one), 3), ("open", 1),
               ("open", 10 ** 29), ("roll", 0, one, 1), ("roll", 1, one, 1), ("roll", 1, other, 1)]
        self.assertEqual(plain(self.shop, row), [
            ("roll", 0, one, 5), ("open", 10 ** 29 + 1), ("roll", 0, one, 1), ("roll", 1, one, 1),
            ("roll", 1, other, 1)])
        self.assertEqual(plain(self.shop, []), [])
        self.assertEqual(plain(self.shop, [("open", 0), ("roll", 0, one, 0)]), [])
        self.assertEqual(plain(self.shop, [("roll", 0, one, 1)] * 40), [("roll", 0, one, 40)])

    def test_plies_in_another_order_are_unlike(self):
        both = [(0, "head", "back"), (1, "head", "back")]
        row = [("roll", 0, list(order), 1) for order in permutations(both)]
        self.assertEqual(plain(self.shop, row), row)

    def test_forty_deeds(self):
        row = (self.row * 14)[:40]
        bench = Bench([(1, 0), (9, 0)], [4, 2])
        for face in bench.faces:
            self.assertEqual(shows(self.shop, row, (face, 0, 99)), bench.shown(row, (face, 0, 99)))

    def test_open_lets_nothing_on(self):
        row = [("open", 7)] + self.row
        self.assertEqual(shows(self.shop, row, (self.face, 0, 7)), [(self.face, 0)])
        self.assertEqual(len(shows(self.shop, row, (self.face, 0, 8))), 2)

    def test_by_name(self):
        spot = (self.face, 0, 4)
        told = shows(self.shop, self.row, spot)
        self.assertEqual(plain(row=self.row, shop=self.shop), plain(self.shop, self.row))
        self.assertEqual(shows(spot=spot, row=self.row, shop=self.shop), told)
        self.assertEqual(marks(spots=[spot], row=self.row, shop=self.shop), [(face, [0]) for face, _ in told])
        self.assertEqual(len(bare(spots=[spot], row=self.row, shop=self.shop)), len(self.shop.faces()) - 5)
        steps = way(face=self.face, spot=spot, row=self.row, shop=self.shop)
        self.assertIs(is_way(thing=steps, face=self.face, spot=spot, row=self.row, shop=self.shop), True)
        self.assertIs(shuts_off(thing=told, spot=spot, row=self.row, shop=self.shop), True)


class Refused(unittest.TestCase):

    def setUp(self):
        self.bench = Bench([(3, 1), (2, 0)], [4, 2, 5, 1])
        self.face = self.bench.faces[-1]
        self.row = [("roll", 0, [(0, "head", "back")], 2), ("open", 3)]
        self.spot = (self.face, 5, 1)

    def refused(self, error, told, ask, *arguments):
        with self.assertRaises(error) as caught:
            ask(self.bench.shop, *arguments)
        field = {BadRow: "at", BadSpot: "part", NoFace: "face"}[error]
        if error is NoFace:
            self.assertIs(caught.exception.face, told)
        else:
            self.assertEqual(getattr(caught.exception, field), told)

    def test_no_row(self):
        for row, at in no_rows(self.bench):
            self.refused(BadRow, at, plain, row)
            for spot, face in ((self.spot, self.face), (None, None)):
                self.refused(BadRow, at, shows, row, spot)
                self.refused(BadRow, at, marks, row, spot if spot is None else [spot])
                self.refused(BadRow, at, bare, row, spot if spot is None else [spot])
                self.refused(BadRow, at, way, row, spot, face)
                self.refused(BadRow, at, is_way, row, spot, face, None)
                self.refused(BadRow, at, shuts_off, row, spot, None)

    def test_no_deed_is_none(self):
        for deed in no_deeds(self.bench):
            self.refused(BadRow, 40 - 1, plain, [("open", 0)] * 39 + [deed])

    def test_forty_one_deeds(self):
        self.assertEqual(plain(self.bench.shop, [("open", 1)] * 40), [("open", 40)])
        self.refused(BadRow, -1, plain, [("open", 1)] * 41)
        self.refused(BadRow, -1, plain, [("open", 0)] * 41)
        self.refused(BadRow, -1, plain, [None] * 41)

    def test_no_spot(self):
        for spot, part in no_spots(self.bench, 5):
            self.refused(BadSpot, part, shows, self.row, spot)
            self.refused(BadSpot, part, shuts_off, self.row, spot, [])
            for face in (self.face, None, ("strip", 9, 9, "back")):
                self.refused(BadSpot, part, way, self.row, spot, face)
                self.refused(BadSpot, part, is_way, self.row, spot, face, [])

    def test_no_moment_of_a_row_of_no_beats(self):
        for row in ([], [("open", 0)]):
            self.refused(BadSpot, "moment", shows, row, (self.face, 1, 0))
            self.assertEqual(shows(self.bench.shop, row, (self.face, 0, 0)), [(self.face, 0)])

    def test_no_spots(self):
        for thing in no_lists() + [(self.spot,), self.spot, [self.spot] * 41, [None] * 41, {0: self.spot}]:
            self.refused(BadSpot, "spots", marks, self.row, thing)
            self.refused(BadSpot, "spots", bare, self.row, thing)

    def test_what_is_no_spot_among_spots(self):
        for spot, part in no_spots(self.bench, 5):
            for spots in ([spot], [self.spot, spot], [self.spot] * 39 + [spot], [spot, None],
                          [spot, (None, 0, 0)], [spot, (self.face, -1, 0)], [spot, (self.face, 0, -1)]):
                self.refused(BadSpot, part, marks, self.row, spots)
                self.refused(BadSpot, part, bare, self.row, spots)

    def test_no_face(self):
        for face in no_shop_faces(self.bench):
            self.refused(NoFace, face, way, self.row, self.spot, face)
            self.refused(NoFace, face, is_way, self.row, self.spot, face, None)
            self.refused(NoFace, face, is_way, self.row, self.spot, face, [self.spot[:2]])


if __name__ == "__main__":
    unittest.main()
