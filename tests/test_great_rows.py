"""Points 3, 34, 36, 38 and 39 on beats of thirty figures, where nothing may be walked."""

import random
import unittest

from benches import Bench, every_plies, total
from wetmarks.drums import Drum
from wetmarks.rows import bare, is_way, marks, plain, shows, shuts_off, way
from wetmarks.shops import Shop
from wetmarks.webs import ever, grows, parted, stands, times, web

GREAT = 10 ** 30 - 1
# Behind so many beats nothing new comes in a deed: no tree of these benches is as wide.
ENOUGH = 14


class GreatRow:
    """A row of great beats, and one of fewer beats in which ink goes just so."""

    def __init__(self, bench, chance):
        plies = every_plies(bench, 40)[4:]
        self.great, self.few, self.starts = [], [], []
        for _ in range(chance.randint(1, 5)):
            deed = ("roll", chance.randrange(len(bench.drums)), chance.choice(plies))
            deed = chance.choice([deed, deed, deed, ("open",)])
            beats = chance.choice([0, 1, 2, ENOUGH, 10 ** 28, 10 ** 29 + chance.randrange(10 ** 20)])
            self.starts.append((total(self.few), total(self.great)))
            self.great.append(deed + (beats,))
            self.few.append(deed + (min(beats, ENOUGH),))
        self.starts.append((total(self.few), total(self.great)))

    def great_moment(self, moment):
        """The great moment that lies by as much behind the beginning of the same deed."""
        few, great = [start for start in self.starts if start[0] <= moment][0]
        for few_start, great_start in self.starts:
            if few_start < moment:
                few, great = few_start, great_start
        return great + moment - few


class AsFewBeats(unittest.TestCase):
    """What ink does in great beats is what it does in the first of each deed."""

    @classmethod
    def setUpClass(cls):
        chance = random.Random(34)
        benches = [Bench([(3, 1)], [8, 3]), Bench([(2, 2), (3, 0)], [6, 5, 2]),
                   Bench([(1, 0), (4, 2)], [9, 1, 4])]
        cls.cases = [(bench, GreatRow(bench, chance)) for bench in benches for _ in range(25)]

    def greatly(self, row, shown):
        return [(face, row.great_moment(moment)) for face, moment in shown]

    def test_shows(self):
        for bench, row in self.cases:
            for face in bench.faces[::2]:
                told = self.greatly(row, bench.shown(row.few, (face, 0, total(row.few))))
                for wet in (total(row.great), GREAT):
                    self.assertEqual(shows(bench.shop, row.great, (face, 0, wet)), told)

    def test_spots_put_at_the_beginning_of_a_deed(self):
        for bench, row in self.cases:
            for few, great in row.starts:
                for face in bench.faces[::4]:
                    walk = bench.walk(row.few, (face, few, total(row.few)))
                    told = sorted((one, great if one == face else row.great_moment(moment))
                                  for one, moment in walk.items())
                    self.assertEqual(shows(bench.shop, row.great, (face, great, GREAT)), told)

    def test_spots_that_dry(self):
        for bench, row in self.cases:
            for dry in range(total(row.few) + 1):
                for face in bench.faces[dry % 3::5]:
                    told = self.greatly(row, bench.shown(row.few, (face, 0, dry)))
                    spot = (face, 0, row.great_moment(dry))
                    self.assertEqual(shows(bench.shop, row.great, spot), told)

    def test_ways_and_walls(self):
        for bench, row in self.cases:
            last = total(row.great)
            for face in bench.faces[::3]:
                spot = (face, 0, GREAT)
                told = shows(bench.shop, row.great, spot)
                self.assertIs(shuts_off(bench.shop, row.great, spot, told), True)
                for at, (other, moment) in enumerate(told):
                    steps = way(bench.shop, row.great, spot, other)
                    self.assertEqual(steps[-1], (other, moment))
                    self.assertIs(is_way(bench.shop, row.great, spot, other, steps), True)
                    late = told[:at] + [(other, moment + 1)] + told[at + 1:]
                    self.assertIs(shuts_off(bench.shop, row.great, spot, late), False)
                    spoiled = steps[:-1] + [(other, last + 1)]
                    self.assertIs(is_way(bench.shop, row.great, spot, other, spoiled), False)

    def test_marks_and_bare(self):
        for bench, row in self.cases:
            spots = [(face, start[1], GREAT) for face in bench.faces[::5] for start in row.starts[::2]]
            found = [dict(shows(bench.shop, row.great, spot)) for spot in spots]
            numbers = {face: [n for n, told in enumerate(found) if face in told] for face in bench.faces}
            told = [(face, numbers[face]) for face in bench.faces if numbers[face]]
            self.assertEqual(marks(bench.shop, row.great, spots), told)
            self.assertEqual(bare(bench.shop, row.great, spots),
                             [face for face in bench.faces if not numbers[face]])

    def test_the_plain_form(self):
        for bench, row in self.cases:
            told = plain(bench.shop, row.great)
            self.assertEqual(total(told), total(row.great))
            self.assertIs(parted(bench.shop, row.great, told), None)
            spot = (bench.faces[-1], total(row.great) // 2, GREAT)
            self.assertEqual(shows(bench.shop, told, spot), shows(bench.shop, row.great, spot))

    def test_times_grows_and_webs(self):
        for bench, row in self.cases:
            moments = set()
            for face in bench.faces:
                told = self.greatly(row, bench.shown(row.few, (face, 0, total(row.few))))
                self.assertEqual(times(bench.shop, row.great, face), told)
                moments |= {moment for _, moment in told}
            rising = grows(bench.shop, row.great)
            self.assertEqual(rising, sorted(moments - {0}))
            self.assertEqual(web(bench.shop, row.great, GREAT), bench.web(row.few, total(row.few)))
            for wet in rising[-3:]:
                before = web(bench.shop, row.great, wet - 1)
                self.assertNotEqual(web(bench.shop, row.great, wet), before)

    def test_a_face_is_in_a_web_where_its_moment_is_at_most_the_wetness(self):
        for bench, row in self.cases:
            told = {face: times(bench.shop, row.great, face) for face in bench.faces}
            for wet in sorted({start[1] + more for start in row.starts for more in (0, 1, 2)}):
                shown = [(face, [one for one, moment in told[face] if moment <= wet]) for face in bench.faces]
                self.assertEqual(web(bench.shop, row.great, wet), shown)

    def test_webs_behind_one_another(self):
        for (bench, one), (other_bench, other) in zip(self.cases, self.cases[1:]):
            if bench is other_bench:
                ahead = total(one.great)
                for wet in (0, 1, ahead - 1, ahead, ahead + 1, ahead + total(other.great) // 2, GREAT):
                    wet = max(0, wet)
                    first = web(bench.shop, one.great, wet)
                    second = dict(web(bench.shop, other.great, max(0, wet - ahead)))
                    told = [(face, sorted({last for middle in shown for last in second[middle]}))
                            for face, shown in first]
                    self.assertEqual(web(bench.shop, one.great + other.great, wet), told)

    def test_parted(self):
        found = 0
        for (bench, one), (other_bench, other) in zip(self.cases, self.cases[1:]):
            if bench is other_bench:
                told = parted(bench.shop, one.great, other.great)
                if told is None:
                    self.assertEqual(grows(bench.shop, one.great), grows(bench.shop, other.great))
                    continue
                found += 1
                word, wet, face, shown = told
                self.assertEqual(word, "wet")
                before = [web(bench.shop, row.great, wet - 1) for row in (one, other)]
                self.assertEqual(before[0], before[1])
                mine, theirs = [web(bench.shop, row.great, wet) for row in (one, other)]
                unlike = [(a[0], min(set(a[1]) ^ set(b[1]))) for a, b in zip(mine, theirs) if a != b]
                self.assertEqual(unlike[0], (face, shown))
        self.assertGreater(found, 20)

    def test_ever(self):
        for bench, row in self.cases:
            many = 40 // len(row.great)
            lap = total(row.great)
            for face in bench.faces[::3]:
                told = ever(bench.shop, row.great, face)
                # What comes within as many repeats as make a row is told by times.
                within = [pair for pair in told if pair[1] <= many * lap]
                self.assertEqual(times(bench.shop, row.great * many, face), within)
            self.assertLessEqual(max(moment for face in bench.faces for _, moment in
                                     ever(bench.shop, row.great, face)), stands(bench.shop, row.great) * lap)

    def test_stands(self):
        for bench, row in self.cases:
            lap = total(row.great)
            latest = max(moment for face in bench.faces for _, moment in ever(bench.shop, row.great, face))
            told = max(1, -(-latest // lap)) if lap else 1
            self.assertEqual(stands(bench.shop, row.great), told)


class TheGreatestShop(unittest.TestCase):
    """All limits at once: three drums, six strips of forty cells, forty deeds, great beats."""

    def setUp(self):
        self.shop = Shop([Drum(13, 1), Drum(1, 10 ** 15 - 1), Drum(40, 0)], [40] * 6)
        chance = random.Random(40)
        self.row = []
        for _ in range(40):
            plies = [(strip, chance.choice(["head", "tail"]), chance.choice(["back", "front"]))
                     for strip in chance.sample(range(6), 3)]
            self.row.append(("roll", chance.randrange(3), plies, chance.choice([1, 3, 10 ** 28])))

    def test_all_at_once(self):
        faces = self.shop.faces()
        lap = total(self.row)
        told = {face: times(self.shop, self.row, face) for face in faces[::60]}
        whole = dict(web(self.shop, self.row, GREAT))
        for face, shown in told.items():
            self.assertEqual([one for one, _ in shown], whole[face])
            self.assertEqual(shows(self.shop, self.row, (face, 0, lap)), shown)
            self.assertLessEqual({moment for _, moment in shown}, {0} | set(grows(self.shop, self.row)))
            self.assertEqual([pair for pair in ever(self.shop, self.row, face) if pair[1] <= lap], shown)
        self.assertIs(parted(self.shop, self.row, list(self.row)), None)
        self.assertLess(stands(self.shop, self.row), 600)


if __name__ == "__main__":
    unittest.main()
