"""Points 35 to 40: webs, against the test's own walk, beat by beat."""

import random
import unittest

from benches import (Bench, every_plies, no_rows, no_shop_faces, short_benches, small_benches, some_rows,
                     total)
from walks import no_wholes
from wetmarks.drums import Drum
from wetmarks.errors import BadRow, NoBeats, NoFace
from wetmarks.rows import plain, shows
from wetmarks.shops import Shop
from wetmarks.webs import ever, grows, parted, stands, times, web



def composed(first, second):
    """Two webs put behind one another."""
    second = dict(second)
    return [(face, sorted({last for middle in shown for last in second[middle]})) for face, shown in first]


class SmallWebs(unittest.TestCase):
    """Each test holds one function against the test's own walk."""

    @classmethod
    def setUpClass(cls):
        cls.cases = []
        for bench in short_benches():
            for row in some_rows(bench, 14, 3):
                webs = [bench.web(row, wet) for wet in range(total(row) + 3)]
                cls.cases.append((bench, row, webs))

    def test_web(self):
        for bench, row, webs in self.cases:
            for wet, told in enumerate(webs):
                self.assertEqual(web(bench.shop, row, wet), told)
            self.assertEqual(web(bench.shop, row, 10 ** 30 - 1), webs[-1])

    def test_ink_goes_on(self):
        # The cases would hold little if webs seldom grew.
        grown = [sum(len(shown) for _, shown in webs[-1]) / len(bench.faces) for bench, _, webs in self.cases]
        self.assertTrue(sum(1 for many in grown if many > 3) > 20)

    def test_times(self):
        for bench, row, _ in self.cases:
            for face in bench.faces:
                told = bench.shown(row, (face, 0, total(row)))
                self.assertEqual(times(bench.shop, row, face), told)

    def test_a_face_is_in_a_web_where_its_moment_is_at_most_the_wetness(self):
        for bench, row, webs in self.cases:
            told = {face: dict(times(bench.shop, row, face)) for face in bench.faces}
            for wet, one in enumerate(webs):
                for face, shown in one:
                    self.assertEqual(shown, sorted(f for f in told[face] if told[face][f] <= wet))

    def test_grows(self):
        for bench, row, webs in self.cases:
            told = [wet for wet in range(1, len(webs)) if webs[wet] != webs[wet - 1]]
            self.assertEqual(grows(bench.shop, row), told)
            moments = {moment for face in bench.faces for _, moment in times(bench.shop, row, face)}
            self.assertEqual(told, sorted(moments - {0}))

    def test_parted(self):
        for at, (bench, one, mine) in enumerate(self.cases):
            for other_bench, other, theirs in self.cases[max(0, at - 6):at + 7]:
                if other_bench is bench:
                    told = self.first_unlike(mine, theirs)
                    self.assertEqual(parted(bench.shop, one, other), told)

    def first_unlike(self, mine, theirs):
        """Point 37's own words, of the webs at each wetness, from 0 till beyond both rows."""
        for wet in range(max(len(mine), len(theirs))):
            one, other = mine[min(wet, len(mine) - 1)], theirs[min(wet, len(theirs) - 1)]
            for (face, shown), (_, seen) in zip(one, other):
                if shown != seen:
                    return ("wet", wet, face, min(set(shown) ^ set(seen)))
        return None

    def test_parted_the_other_way_about(self):
        for (bench, one, _), (other_bench, other, _) in zip(self.cases, self.cases[1:]):
            if bench is other_bench:
                told = parted(bench.shop, one, other)
                self.assertEqual(parted(bench.shop, other, one), told)

    def test_webs_behind_one_another(self):
        for (bench, one, _), (other_bench, other, _) in zip(self.cases, self.cases[1:]):
            if bench is other_bench:
                for wet in (0, 1, 2, total(one), total(one) + 1, total(one) + total(other)):
                    first = web(bench.shop, one, wet)
                    second = web(bench.shop, other, max(0, wet - total(one)))
                    self.assertEqual(web(bench.shop, one + other, wet), composed(first, second))

    def test_ever(self):
        for bench, row, _ in self.cases:
            many = min(40 // max(1, len(row)), 3)
            for face in bench.faces:
                told = ever(bench.shop, row, face)
                self.assertEqual(told, self.walked_for_ever(bench, row, face))
                within = [pair for pair in told if pair[1] <= many * total(row)]
                self.assertEqual(times(bench.shop, row * many, face), within)

    def walked_for_ever(self, bench, row, face):
        """The first moments of a walk that is done till it has brought nothing for a whole row."""
        has, beat, quiet = {face: 0}, 0, 0
        while total(row) and quiet <= total(row):
            for near in bench.beats(row):
                new = {other for one in has for other in near.get(one, [])} - set(has)
                beat += 1
                has.update({other: beat for other in new})
                quiet = 0 if new else quiet + 1
        return sorted(has.items())

    def test_stands(self):
        for bench, row, _ in self.cases:
            latest = max(moment for face in bench.faces
                         for _, moment in self.walked_for_ever(bench, row, face))
            told = max(1, -(-latest // max(1, total(row))))
            self.assertEqual(stands(bench.shop, row), told)

    def test_some_repeats_carry_ink_on(self):
        found = {stands(bench.shop, row) for bench, row, _ in self.cases}
        self.assertTrue({1, 2, 3} <= found)

    def test_repeats_of_a_row(self):
        for bench, row, _ in self.cases:
            told = stands(bench.shop, row)
            if 0 < len(row) * (told + 1) <= 40:
                wet = (told + 1) * total(row)
                self.assertEqual(web(bench.shop, row * told, wet), web(bench.shop, row * (told + 1), wet))
                if told > 1:
                    before = web(bench.shop, row * (told - 1), wet)
                    self.assertNotEqual(before, web(bench.shop, row * told, wet))
                shown = [(face, sorted(other for other, _ in ever(bench.shop, row, face)))
                         for face in bench.faces]
                self.assertEqual(web(bench.shop, row * told, wet), shown)


class Alike(unittest.TestCase):
    """Point 37: rows that are alike, and what stands behind them and ahead."""

    def setUp(self):
        self.cases = []
        for bench in small_benches()[2:6]:
            self.cases += [(bench, row) for row in some_rows(bench, 8)]

    def test_a_row_and_its_plain_form(self):
        for bench, row in self.cases:
            self.assertIs(parted(bench.shop, row, plain(bench.shop, row)), None)
            self.assertIs(parted(bench.shop, row, list(row)), None)

    def test_beats_in_which_nothing_new_comes(self):
        bench = small_benches()[3]
        plies = [(1, "head", "back"), (0, "tail", "back")]
        long = [("roll", 1, plies, 10 ** 30 - 1), ("open", 7), ("roll", 1, plies, 9)]
        self.assertIs(parted(bench.shop, long, [("roll", 1, plies, 999)]), None)
        self.assertIs(parted(bench.shop, [("open", 10 ** 29)], []), None)

    def test_whatever_deeds_stand_behind_and_ahead(self):
        chance = random.Random(37)
        for bench, row in self.cases:
            like = plain(bench.shop, row) + [("open", 0)]
            more = chance.choice([other for told, other in self.cases if told is bench])
            self.assertIs(parted(bench.shop, row + more, like + more), None)
            self.assertIs(parted(bench.shop, more + row, more + like), None)

    def test_rollings_of_other_strips_may_change_places(self):
        bench = Bench([(2, 1), (3, 0)], [5, 4])
        one = ("roll", 0, [(0, "head", "back")], 6)
        other = ("roll", 1, [(1, "tail", "front")], 6)
        # They part while it counts which came first, not once both are done.
        self.assertEqual(parted(bench.shop, [one, other], [other, one])[:2], ("wet", 1))
        self.assertEqual(web(bench.shop, [one, other], 12), web(bench.shop, [other, one], 12))


class ByHand(unittest.TestCase):
    """A few answers written out by hand."""

    def setUp(self):
        # On drum 0 each cell lies on the cell ahead alone, on drum 1 all lie on the drum.
        self.shop = Shop([Drum(1, 0), Drum(2, 0)], [2])
        self.faces = self.shop.faces()
        self.row = [("roll", 1, [(0, "tail", "back")], 2), ("open", 3), ("roll", 1, [(0, "head", "back")], 1)]

    def test_a_row_of_no_deeds(self):
        for row in ([], [("open", 0)], [("roll", 0, [(0, "head", "back")], 0)]):
            for wet in (0, 1, 10 ** 30 - 1):
                self.assertEqual(web(self.shop, row, wet), [(face, [face]) for face in self.faces])
            for face in self.faces:
                self.assertEqual(times(self.shop, row, face), [(face, 0)])
                self.assertEqual(ever(self.shop, row, face), [(face, 0)])
            self.assertEqual(grows(self.shop, row), [])
            self.assertEqual(stands(self.shop, row), 1)
            self.assertIs(parted(self.shop, row, []), None)

    def test_open_deeds_alone(self):
        row = [("open", 5), ("open", 10 ** 29)]
        self.assertEqual(ever(self.shop, row, self.faces[0]), [(self.faces[0], 0)])
        self.assertEqual((stands(self.shop, row), grows(self.shop, row)), (1, []))

    def test_times_and_grows(self):
        first, second = ("drum", 1, 0, "out"), ("drum", 1, 1, "out")
        head, tail = ("strip", 0, 0, "back"), ("strip", 0, 1, "back")
        self.assertEqual(times(self.shop, self.row, head), [(first, 6), (second, 1), (head, 0), (tail, 6)])
        self.assertEqual(times(self.shop, self.row, first), [(first, 0), (second, 6), (head, 6), (tail, 1)])
        self.assertEqual(grows(self.shop, self.row), [1, 6])
        self.assertEqual(web(self.shop, self.row, 5)[1:3], [(first, [first, tail]), (second, [second, head])])
        self.assertEqual(ever(self.shop, self.row, first), times(self.shop, self.row, first))
        self.assertEqual(stands(self.shop, self.row), 1)

    def test_repeats_that_carry_ink_on(self):
        shop = Shop([Drum(2, 1)], [4])
        row = [("open", 1), ("roll", 0, [(0, "head", "back")], 1), ("open", 10 ** 29)]
        chain = [("strip", 0, 2, "back"), ("strip", 0, 0, "front"), ("strip", 0, 3, "back"),
                 ("strip", 0, 1, "front")]
        told = [(chain[0], 0)] + [(face, 2 + at * (10 ** 29 + 2)) for at, face in enumerate(chain[1:])]
        self.assertEqual(ever(shop, row, chain[0]), sorted(told))
        self.assertEqual(stands(shop, row), 3)
        self.assertEqual(times(shop, row, chain[0]), sorted(told[:2]))

    def test_parted_by_hand(self):
        other = [("roll", 1, [(0, "tail", "back")], 2), ("open", 2), ("roll", 1, [(0, "head", "back")], 1)]
        self.assertEqual(parted(self.shop, self.row, other),
                         ("wet", 5, ("drum", 1, 0, "out"), ("drum", 1, 1, "out")))
        self.assertEqual(parted(self.shop, other, []),
                         ("wet", 1, ("drum", 1, 0, "out"), ("strip", 0, 1, "back")))
        self.assertEqual(parted(self.shop, [], self.row)[:2], ("wet", 1))

    def test_by_name(self):
        face = self.faces[0]
        self.assertEqual(web(wet=2, row=self.row, shop=self.shop), web(self.shop, self.row, 2))
        self.assertEqual(times(face=face, row=self.row, shop=self.shop), times(self.shop, self.row, face))
        self.assertEqual(grows(row=self.row, shop=self.shop), [1, 6])
        self.assertIs(parted(other=self.row, one=self.row, shop=self.shop), None)
        self.assertEqual(ever(face=face, row=self.row, shop=self.shop), [(face, 0)])
        self.assertEqual(stands(row=self.row, shop=self.shop), stands(self.shop, self.row))


class Repeats(unittest.TestCase):

    def test_a_row_that_carries_ink_on_for_many_repeats(self):
        # A chain from cell to cell: each repeat brings the ink one cell farther.
        shop = Shop([Drum(20, 0), Drum(20, 0)], [20, 19])
        row = [("roll", 0, [(0, "head", "back")], 1), ("roll", 0, [(1, "head", "back")], 1),
               ("roll", 1, [(1, "head", "back")], 1), ("roll", 1, [(0, "tail", "back")], 1)]
        told = stands(shop, row)
        latest = max(moment for face in shop.faces() for _, moment in ever(shop, row, face))
        self.assertGreater(told, 1)
        self.assertEqual(told, -(-latest // 4))
        self.assertEqual(web(shop, row * min(10, told), 40), web(shop, row * 10, 40))

    def test_a_long_tree_fills_beat_by_beat(self):
        shop = Shop([Drum(19, 1)], [39])
        row = [("roll", 0, [(0, "head", "back")], 1)]
        self.assertEqual(stands(shop, row), 38)
        self.assertEqual(grows(shop, row * 40), list(range(1, 39)))
        self.assertEqual(max(moment for _, moment in ever(shop, row, ("strip", 0, 19, "back"))), 38)
        self.assertEqual(stands(shop, [("roll", 0, [(0, "head", "back")], 5), ("open", 9)]), 8)
        self.assertEqual(stands(shop, [("roll", 0, [(0, "head", "back")], 38)]), 1)


class Refused(unittest.TestCase):

    def setUp(self):
        self.bench = Bench([(3, 1), (2, 0)], [4, 2, 5, 1])
        self.shop = self.bench.shop
        self.row = [("roll", 0, every_plies(self.bench, 9)[-1], 2)]
        self.face = self.bench.faces[0]

    def refused(self, error, told, ask, *arguments):
        with self.assertRaises(error) as caught:
            ask(self.shop, *arguments)
        field = {BadRow: "at", NoBeats: "beats", NoFace: "face"}[error]
        if error is BadRow:
            self.assertEqual(caught.exception.at, told)
        else:
            self.assertIs(getattr(caught.exception, field), told)

    def test_no_row(self):
        for row, at in no_rows(self.bench):
            self.refused(BadRow, at, grows, row)
            self.refused(BadRow, at, stands, row)
            self.refused(BadRow, at, parted, row, self.row)
            self.refused(BadRow, at, parted, self.row, row)
            for wet, face in ((1, self.face), (None, None), (-1, ())):
                self.refused(BadRow, at, web, row, wet)
                self.refused(BadRow, at, times, row, face)
                self.refused(BadRow, at, ever, row, face)

    def test_the_one_row_is_refused_ahead_of_the_other(self):
        self.refused(BadRow, 1, parted, self.row + [None], None)
        self.refused(BadRow, -1, parted, None, self.row + [None])
        self.refused(BadRow, 0, parted, [None], self.row + [None])

    def test_no_wetness(self):
        for wet in [-1, -10 ** 30] + no_wholes():
            self.refused(NoBeats, wet, web, self.row, wet)
            self.refused(NoBeats, wet, web, [], wet)

    def test_no_face(self):
        for face in no_shop_faces(self.bench):
            for row in (self.row, []):
                self.refused(NoFace, face, times, row, face)
                self.refused(NoFace, face, ever, row, face)

    def test_forty_deeds_are_none_to_refuse(self):
        self.assertEqual(shows(self.shop, self.row * 40, (self.face, 80, 1)), [(self.face, 80)])
        self.assertEqual(grows(self.shop, self.row * 40), grows(self.shop, self.row + [("open", 1)]))


if __name__ == "__main__":
    unittest.main()
