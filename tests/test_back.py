"""Points 46 to 51: a shown lot led back, against the test's own walk of each spot."""

import copy
import random
import unittest

from benches import (Bench, every_plies, no_lists, no_lots, no_rows, no_shop_faces, short_benches, some_rows,
                     total)
from walks import Own, no_wholes
from wetmarks.back import how_wet, is_clash, led_back, let
from wetmarks.drums import Drum
from wetmarks.errors import BadMarks, BadRow, NoBeats
from wetmarks.rows import shows
from wetmarks.shops import Shop

GREAT = 10 ** 30 - 1


def some_lots(bench, row, many):
    """Lots of no face, of one, of all, of what spots show, and of a face more or less than those."""
    chance = random.Random(len(bench.faces) + 5 * total(row))
    lots = [[], [chance.choice(bench.faces)], bench.faces[::-1], chance.sample(bench.faces, 3)]
    while len(lots) < many:
        spots = [(chance.choice(bench.faces), chance.choice((0, 0, total(row) // 2)), total(row))
                 for _ in range(chance.choice((1, 2, 6)))]
        shown = sorted({face for spot in spots for face in bench.walk(row, spot)})
        chance.shuffle(shown)
        others = [face for face in bench.faces if face not in shown]
        lots.append(chance.choice([shown, shown[1:], shown[2:], (others[:1] + shown)]))
    return lots


def some_moments(row):
    """Wetnesses and moments: at the row's begin, amid deeds, at its last moment."""
    last = total(row)
    whens = {0, 1, last // 2, last - 1, last} | {total(row[:k]) for k in range(len(row))}
    wets = {0, 1, 2, last // 2, max(0, last - 1), last, last + 3}
    return [(wet, when) for when in sorted(whens) if 0 <= when <= last for wet in sorted(wets)]


class SmallRows(unittest.TestCase):
    """Each test holds one function against the test's own walk, spot by spot."""

    @classmethod
    def setUpClass(cls):
        cls.cases = [(bench, row, lot) for bench in short_benches() for row in some_rows(bench, 9, 3)
                     for lot in some_lots(bench, row, 8)]
        cls.told = []
        for bench, row, lot in cls.cases[::2]:
            for wet, when in some_moments(row)[::3]:
                cls.told.append((bench, row, lot, wet, when, led_back(bench.shop, row, wet, lot, when=when)))

    def test_how_wet(self):
        for bench, row, lot in self.cases:
            for when in sorted({0, total(row) // 3, total(row)}):
                told = []
                for face in sorted(lot):
                    wets = range(total(row) - when + 1)
                    fits = [wet for wet in wets if bench.is_let(row, (face, when, wet), lot)]
                    told.append((face, None if fits[-1] == wets[-1] else fits[-1]))
                self.assertEqual(how_wet(bench.shop, row, lot, when=when), told)
                if when == 0:
                    self.assertEqual(how_wet(bench.shop, row, lot), told)

    def test_let(self):
        for bench, row, lot in self.cases:
            for wet in sorted({0, 1, total(row) // 2, total(row)}):
                told = []
                for face in bench.faces:
                    for moment in range(total(row) + 1):
                        if face in lot and bench.is_let(row, (face, moment, wet), lot):
                            if told and told[-1][0] == face and told[-1][2] == moment - 1:
                                told[-1] = (face, told[-1][1], moment)
                            else:
                                told.append((face, moment, moment))
                self.assertEqual(let(bench.shop, row, wet, lot), told)

    def test_at_the_last_moment_a_spot_on_any_face_of_the_lot_is_let(self):
        for bench, row, lot in self.cases:
            for wet in (0, 1, GREAT):
                told = let(bench.shop, row, wet, lot)
                self.assertEqual(sorted(face for face, _, high in told if high == total(row)), sorted(lot))

    def test_led_back(self):
        for bench, row, lot, wet, when, told in self.told:
            walks = {face: set(bench.walk(row, (face, when, wet))) for face in lot}
            faces = sorted(face for face in lot if walks[face] <= set(lot))
            shown = {one for face in faces for one in walks[face]}
            if shown == set(lot):
                self.assertEqual(told, ("spots", faces))
            else:
                word, face, lasts, ways = told
                self.assertEqual((word, face), ("clash", min(set(lot) - shown)))
                self.assertEqual(lasts, self.own_lasts(bench, row, wet, when, face))
                self.assertEqual([steps[0] for steps in ways], [(one, when) for one, _ in lasts])
                for (one, _), steps in zip(lasts, ways):
                    self.assertNotIn(steps[-1][0], lot)
                    self.assertTrue(bench.is_way(row, (one, when, wet), steps[-1][0], steps))

    def own_lasts(self, bench, row, wet, when, face):
        """The last moment, from when on, at which ink on each face still comes to the face."""
        lasts = {face: total(row)}
        for moment in range(when, total(row) + 1):
            for one in bench.faces:
                left = max(0, when + wet - moment)
                if one != face and face in bench.walk(row, (one, moment, left)):
                    lasts[one] = moment
        return sorted(lasts.items())

    def test_both_kinds_are_told_often(self):
        kinds = [told[0] for *_, told in self.told]
        clashes = [told for *_, told in self.told if told[0] == "clash"]
        self.assertGreater(kinds.count("spots"), 100)
        self.assertGreater(len(clashes), 100)
        self.assertGreater(max(len(lasts) for _, _, lasts, _ in clashes), 8)
        self.assertGreater(max(len(steps) for _, _, _, ways in clashes for steps in ways), 3)

    def test_a_told_clash_is_one(self):
        for bench, row, lot, wet, when, told in self.told:
            if told[0] == "clash":
                self.assertTrue(bench.is_clash(row, wet, lot, when, told))
                self.assertIs(is_clash(bench.shop, row, wet, lot, told, when=when), True)
                if when == 0:
                    self.assertIs(is_clash(bench.shop, row, wet, lot, told), True)

    def test_spots_are_no_clash(self):
        for bench, row, lot, wet, when, told in self.told:
            if told[0] == "spots":
                self.assertIs(is_clash(bench.shop, row, wet, lot, told, when=when), False)

    def test_where_spots_show_the_lot_nothing_is_a_clash(self):
        chance = random.Random(50)
        for bench, row, lot, wet, when, told in self.told:
            if told[0] == "spots":
                for face in lot[:3]:
                    for _ in range(3):
                        lasts = [(one, chance.choice((when, total(row)))) for one in bench.faces if one != face]
                        lasts = sorted(chance.sample(lasts, len(lasts) // 2) + [(face, total(row))])
                        ways = [[(one, when)] for one, _ in lasts]
                        thing = ("clash", face, lasts, ways)
                        self.assertIs(is_clash(bench.shop, row, wet, lot, thing, when=when), False)

    def test_spoiled_clashes(self):
        found = {True: 0, False: 0}
        for bench, row, lot, wet, when, told in self.told[::2]:
            if told[0] == "clash":
                for thing in self.spoiled(bench, row, lot, when, told):
                    judged = bench.is_clash(row, wet, lot, when, thing)
                    self.assertIs(is_clash(bench.shop, row, wet, lot, thing, when=when), judged, thing)
                    found[judged] += 1
        self.assertGreater(found[True], 100)
        self.assertGreater(found[False], 1000)

    def spoiled(self, bench, row, lot, when, told):
        """What a clash is if a face or a moment of it, or a way, is another one."""
        _, face, lasts, ways = told
        others = [one for one in bench.faces if one not in [other for other, _ in lasts]]
        yield ("clash", face, lasts[::-1], ways[::-1] + ways)
        yield ("clash", face, lasts + [(one, 0) for one in others[:1]], ways)
        yield ("clash", face, lasts + [(one, total(row)) for one in others[:1]], ways)
        yield ("clash", face, lasts, ways + [[(one, when)] for one in others[:2]])
        yield ("clash", face, lasts + lasts[:1], ways)
        for one in lot[:2] + others[:2]:
            yield ("clash", one, lasts, ways)
        for at, (one, moment) in enumerate(lasts):
            yield ("clash", face, lasts[:at] + lasts[at + 1:], ways)
            for other in {moment - 1, moment + 1, 0, when, total(row) + 9} - {-1}:
                yield ("clash", face, lasts[:at] + [(one, other)] + lasts[at + 1:], ways)
        for at, steps in enumerate(ways[:6]):
            yield ("clash", face, lasts, ways[:at] + ways[at + 1:])
            spoils = [steps[:-1], steps[1:], [], steps + [(face, total(row))], [(steps[0][0], when + 1)] + steps[1:],
                      steps[:-1] + [(steps[-1][0], steps[-1][1] + 1)],
                      steps[:-1] + [(steps[-1][0], steps[-1][1] + 99)], steps[:1] + steps]
            for spoil in spoils:
                yield ("clash", face, lasts, ways[:at] + [spoil] + ways[at + 1:])

    def test_let_is_led_back_deed_by_deed(self):
        for bench in short_benches():
            rows = some_rows(bench, 8, 3)
            for row, more in zip(rows, rows[1:]):
                for lot in some_lots(bench, row + more, 6)[1:]:
                    for wet in sorted({0, 1, total(row), total(row) + 1, total(row) + total(more)}):
                        left = max(0, wet - total(row))
                        second = {face for face, low, _ in let(bench.shop, more, left, lot) if low == 0}
                        told = let(bench.shop, row + more, wet, lot)
                        first = {face for face, low, _ in told if low == 0}
                        own = {face for face in bench.faces if set(bench.walk(row, (face, 0, wet))) <= second}
                        self.assertEqual(first, own)


class GreatBeats(unittest.TestCase):
    """Point 50 on beats of thirty figures: one of both is always so, and what is told holds."""

    def setUp(self):
        chance = random.Random(51)
        self.cases = []
        for bench in (Bench([(3, 1)], [8, 3]), Bench([(2, 2), (3, 0)], [6, 5, 2])):
            plies = every_plies(bench, 40)[4:]
            for _ in range(20):
                row = []
                for _ in range(chance.randint(1, 4)):
                    deed = ("roll", chance.randrange(len(bench.drums)), chance.choice(plies))
                    row.append(chance.choice([deed, deed, ("open",)]) + (chance.choice([1, 9, 10 ** 28, 10 ** 29]),))
                self.cases.append((bench, row))

    def lots(self, bench, row):
        for face in bench.faces[::9]:
            shown = [one for one, _ in self.shown(bench, row, (face, 0, GREAT))]
            yield shown
            yield shown[1:]
        yield bench.faces[1:]

    def shown(self, bench, row, spot):
        """What a walk shows in which each deed is walked till a beat brings nothing new."""
        face, put, wet = spot
        has, start = {face: put}, 0
        for deed in row:
            end, near = start + deed[-1], bench.near(deed)
            moment, new = max(start, put), True
            while new and moment < min(end, put + wet):
                moment += 1
                new = [other for one in has for other in near.get(one, []) if other not in has]
                has.update({other: moment for other in new})
            start = end
        return sorted(has.items())

    def test_let(self):
        for bench, row in self.cases:
            last = total(row)
            ends = [total(row[:k]) for k in range(len(row) + 1)]
            for lot in self.lots(bench, row):
                for wet in (0, 1, 3, 10 ** 28 + 2, last, GREAT):
                    told = let(bench.shop, row, wet, lot)
                    self.assertEqual(told, sorted(told))
                    moments = {end + more for end in ends for more in range(-3, 4)}
                    moments |= {end - wet + more for end in ends for more in (-2, -1, 0, 1)}
                    moments |= {edge + more for _, low, high in told for edge in (low, high) for more in (-1, 0, 1)}
                    for moment in sorted(moments)[::3]:
                        if 0 <= moment <= last:
                            for face in lot[:3]:
                                held = any(one == face and low <= moment <= high for one, low, high in told)
                                seen = {one for one, _ in self.shown(bench, row, (face, moment, wet))}
                                self.assertEqual(held, seen <= set(lot), (row, face, moment, wet))
                    stretches = [(one, high, low) for (one, _, high), (other, low, _) in zip(told, told[1:])
                                 if one == other]
                    self.assertTrue(all(high + 1 < low for _, high, low in stretches))

    def test_how_wet(self):
        for bench, row in self.cases:
            for lot in self.lots(bench, row):
                for when in {0, min(5, total(row)), total(row) // 2, total(row)}:
                    for face, wet in how_wet(bench.shop, row, lot, when=when):
                        if wet is None:
                            told = self.shown(bench, row, (face, when, GREAT))
                        else:
                            told = self.shown(bench, row, (face, when, wet))
                            beyond = self.shown(bench, row, (face, when, wet + 1))
                            self.assertFalse({one for one, _ in beyond} <= set(lot))
                        self.assertLessEqual({one for one, _ in told}, set(lot))

    def test_led_back(self):
        kinds = set()
        for bench, row in self.cases:
            for lot in self.lots(bench, row):
                for wet, when in ((0, 0), (GREAT, 0), (3, 1), (10 ** 28, total(row) // 2), (4, total(row))):
                    if when <= total(row):
                        told = led_back(bench.shop, row, wet, lot, when=when)
                        walks = {face: {one for one, _ in self.shown(bench, row, (face, when, wet))} for face in lot}
                        faces = [face for face in lot if walks[face] <= set(lot)]
                        shown = {one for face in faces for one in walks[face]}
                        kinds.add(told[0])
                        if told[0] == "spots":
                            self.assertEqual(told, ("spots", sorted(faces)))
                            self.assertEqual(shown, set(lot))
                        else:
                            self.assertEqual(told[1], min(set(lot) - shown))
                            self.assertEqual({one for one, _ in told[2]},
                                             {one for one in bench.faces if told[1] in
                                              {other for other, _ in self.shown(bench, row, (one, when, wet))}})
                            self.check_lasts(bench, row, wet, when, told)
                            self.assertIs(is_clash(bench.shop, row, wet, lot, told, when=when), True)
        self.assertEqual(kinds, {"spots", "clash"})

    def check_lasts(self, bench, row, wet, when, told):
        _, face, lasts, _ = told
        for one, moment in lasts:
            if one == face:
                self.assertEqual(moment, total(row))
            else:
                for put, held in ((moment, True), (moment + 1, False)):
                    spot = (one, put, max(0, when + wet - put))
                    seen = {other for other, _ in self.shown(bench, row, spot)}
                    self.assertIs(face in seen, held)


class TheGreatestShop(unittest.TestCase):
    """All limits at once: three drums, six strips of forty cells, forty deeds, great beats."""

    def setUp(self):
        self.shop = Shop([Drum(13, 1), Drum(1, 10 ** 15 - 1), Drum(40, 0)], [40] * 6)
        chance = random.Random(46)
        self.row = []
        for _ in range(40):
            plies = [(strip, chance.choice(["head", "tail"]), chance.choice(["back", "front"]))
                     for strip in chance.sample(range(6), 3)]
            self.row.append(("roll", chance.randrange(3), plies, chance.choice([1, 3, 10 ** 28])))

    def test_all_at_once(self):
        faces, last = self.shop.faces(), total(self.row)
        kinds = set()
        for lot in (faces[1:], faces[:300], [face for face in faces if face[:2] != ("strip", 3)]):
            for wet, when in ((5, 0), (GREAT, 0), (10 ** 28, last // 2), (7, last - 3)):
                told = led_back(self.shop, self.row, wet, lot, when=when)
                kinds.add(told[0])
                barred = []
                if told[0] == "clash":
                    barred = [face for face, _ in told[2]]
                    self.assertIs(is_clash(self.shop, self.row, wet, lot, told, when=when), True)
                held = dict(how_wet(self.shop, self.row, lot, when=when))
                stretches = let(self.shop, self.row, wet, lot)
                for face in lot[::50] + barred[:9]:
                    shown = {one for one, _ in shows(self.shop, self.row, (face, when, wet))}
                    is_let = shown <= set(lot)
                    self.assertEqual(is_let, any(one == face and low <= when <= high for one, low, high in stretches))
                    if face in lot:
                        self.assertEqual(is_let, held[face] is None or held[face] >= wet)
                    self.assertFalse(is_let and told[0] == "spots" and face not in told[1])
                    self.assertFalse(is_let and face in barred)
        self.assertEqual(kinds, {"spots", "clash"})


class ByHand(unittest.TestCase):

    def setUp(self):
        # On drum 1 all cells of the strip lie on the drum; the strip has the back inward.
        self.bench = Bench([(1, 0), (2, 0)], [2])
        self.shop = self.bench.shop
        self.first, self.second = ("drum", 1, 0, "out"), ("drum", 1, 1, "out")
        self.head, self.tail = ("strip", 0, 0, "back"), ("strip", 0, 1, "back")
        # The drum's first cell meets the tail in beats 0 and 1, and the head in beat 5.
        self.row = [("roll", 1, [(0, "tail", "back")], 2), ("open", 3), ("roll", 1, [(0, "head", "back")], 1)]

    def test_how_wet(self):
        lot = [self.head, self.second]
        self.assertEqual(how_wet(self.shop, self.row, lot), [(self.second, 5), (self.head, 5)])
        self.assertEqual(how_wet(self.shop, self.row, lot, when=1), [(self.second, 4), (self.head, 4)])
        self.assertEqual(how_wet(self.shop, self.row, lot, when=6), [(self.second, None), (self.head, None)])
        self.assertEqual(how_wet(self.shop, self.row, [self.head]), [(self.head, 0)])
        self.assertEqual(how_wet(self.shop, self.row, []), [])
        told = how_wet(self.shop, self.row, self.bench.faces)
        self.assertEqual(told, [(face, None) for face in self.bench.faces])

    def test_let(self):
        lot = [self.head, self.second]
        self.assertEqual(let(self.shop, self.row, 5, lot),
                         [(self.second, 0, 0), (self.second, 6, 6), (self.head, 0, 0), (self.head, 6, 6)])
        self.assertEqual(let(self.shop, self.row, 1, lot),
                         [(self.second, 0, 4), (self.second, 6, 6), (self.head, 0, 4), (self.head, 6, 6)])
        self.assertEqual(let(self.shop, self.row, 0, lot), [(self.second, 0, 6), (self.head, 0, 6)])
        self.assertEqual(let(self.shop, self.row, 1, [self.head]), [(self.head, 2, 4), (self.head, 6, 6)])
        self.assertEqual(let(self.shop, self.row, 9, []), [])
        told = let(self.shop, self.row, GREAT, self.bench.faces)
        self.assertEqual(told, [(face, 0, 6) for face in self.bench.faces])

    def test_led_back(self):
        lot = [self.head, self.second]
        self.assertEqual(led_back(self.shop, self.row, 5, lot), ("spots", [self.second, self.head]))
        word, face, lasts, ways = led_back(self.shop, self.row, 6, lot)
        self.assertEqual((word, face), ("clash", self.second))
        self.assertEqual(lasts, [(self.first, 1), (self.second, 6), (self.head, 1), (self.tail, 5)])
        self.assertEqual([steps[0] for steps in ways], [(one, 0) for one, _ in lasts])
        self.assertEqual(ways[0], [(self.first, 0)])
        self.assertTrue(is_clash(self.shop, self.row, 6, lot, (word, face, lasts, ways)))
        self.assertFalse(is_clash(self.shop, self.row, 5, lot, (word, face, lasts, ways)))
        self.assertEqual(led_back(self.shop, self.row, 0, lot), ("spots", [self.second, self.head]))
        self.assertEqual(led_back(self.shop, self.row, GREAT, lot, when=6), ("spots", [self.second, self.head]))
        self.assertEqual(led_back(self.shop, self.row, 3, []), ("spots", []))
        self.assertEqual(led_back(self.shop, self.row, 3, self.bench.faces), ("spots", self.bench.faces))

    def test_a_row_of_no_beats(self):
        for row in ([], [("open", 0)], [self.row[0][:-1] + (0,)]):
            self.assertEqual(how_wet(self.shop, row, [self.head]), [(self.head, None)])
            self.assertEqual(let(self.shop, row, 5, [self.tail, self.head]), [(self.head, 0, 0), (self.tail, 0, 0)])
            self.assertEqual(led_back(self.shop, row, 5, [self.head]), ("spots", [self.head]))
            thing = ("clash", self.head, [(self.head, 0)], [[(self.head, 0)]])
            self.assertIs(is_clash(self.shop, row, 5, [self.head], thing), False)
            for lasts in ([], [(self.tail, 0)]):
                self.assertIs(is_clash(self.shop, row, 5, [self.head], ("clash", self.head, lasts, [])), False)

    def test_by_name(self):
        lot = [self.head]
        self.assertEqual(how_wet(lot=lot, when=6, row=self.row, shop=self.shop), [(self.head, None)])
        self.assertEqual(let(lot=lot, wet=1, row=self.row, shop=self.shop), [(self.head, 2, 4), (self.head, 6, 6)])
        told = led_back(when=0, lot=lot, wet=1, row=self.row, shop=self.shop)
        self.assertEqual(told[:2], ("clash", self.head))
        self.assertIs(is_clash(thing=told, when=0, lot=lot, wet=1, row=self.row, shop=self.shop), True)

    def test_when_by_its_name_alone(self):
        for ask, handed in ((how_wet, (self.row, [])), (led_back, (self.row, 1, [])),
                            (is_clash, (self.row, 1, [], None))):
            ask(self.shop, *handed, when=1)
            with self.assertRaises(TypeError):
                ask(self.shop, *handed, 1)


class Anything(unittest.TestCase):
    """Of anything it is told whether it is a clash."""

    def setUp(self):
        self.bench = Bench([(2, 0), (3, 1)], [4, 2, 5, 1])
        self.shop = self.bench.shop
        self.row = [("roll", 0, [(0, "head", "back"), (2, "tail", "front")], 3), ("open", 2)]
        self.lot = [("strip", 0, 1, "front"), ("strip", 0, 1, "back")]
        self.told = led_back(self.shop, self.row, 9, self.lot)

    def judged(self, thing):
        return is_clash(self.shop, self.row, 9, self.lot, thing)

    def test_what_is_told_is_a_clash(self):
        self.assertIs(self.judged(self.told), True)

    def test_other_kinds(self):
        word, face, lasts, ways = self.told
        for thing in no_wholes() + no_lists() + [list(self.told), self.told[:3], self.told + ([],), ("clash",)]:
            self.assertIs(self.judged(thing), False)
        for thing in no_wholes() + ["CLASH", "spots", 0, ["clash"]]:
            self.assertIs(self.judged((thing, face, lasts, ways)), False)
        for thing in no_shop_faces(self.bench) + [self.bench.faces[0]]:
            self.assertIs(self.judged((word, thing, lasts, ways)), False)
        for thing in no_lists() + [tuple(lasts), dict(lasts)]:
            self.assertIs(self.judged((word, face, thing, ways)), False)
        for thing in no_lists() + [tuple(ways), {0: ways}]:
            self.assertIs(self.judged((word, face, lasts, thing)), False)

    def test_amiss_within_its_lists(self):
        word, face, lasts, ways = self.told
        for thing in no_wholes() + [0, -1, face, (face,), [face, 0], (face, 0, 0), Own()]:
            self.assertIs(self.judged((word, face, lasts + [thing], ways)), False)
            self.assertIs(self.judged((word, face, lasts, ways + [thing])), False)
            self.assertIs(self.judged((word, face, lasts, ways + [[thing]])), False)
            self.assertIs(self.judged((word, face, lasts, ways[:-1] + [ways[-1] + [thing]])), False)
        for thing in no_wholes() + [-1]:
            self.assertIs(self.judged((word, face, lasts + [(self.bench.faces[0], thing)], ways)), False)
            self.assertIs(self.judged((word, face, lasts, ways + [[(self.bench.faces[0], thing)]])), False)
        for thing in no_shop_faces(self.bench):
            self.assertIs(self.judged((word, face, lasts + [(thing, 0)], ways)), False)
            self.assertIs(self.judged((word, face, lasts, ways + [[(thing, 0)]])), False)

    def test_nothing_handed_in_is_changed(self):
        kept = copy.deepcopy((self.row, self.lot, self.told))
        self.judged(self.told)
        self.assertEqual((self.row, self.lot, self.told), kept)


class Refused(unittest.TestCase):

    def setUp(self):
        self.bench = Bench([(3, 1), (2, 0)], [4, 2, 5, 1])
        self.shop = self.bench.shop
        self.row = [("roll", 0, every_plies(self.bench, 9)[-1], 2)]
        self.lot = [self.bench.faces[0]]

    def refused(self, error, told, ask, *arguments, **named):
        with self.assertRaises(error) as caught:
            ask(self.shop, *arguments, **named)
        self.assertIs(type(caught.exception), error)
        if error is NoBeats:
            self.assertIs(caught.exception.beats, told)
        else:
            self.assertEqual(caught.exception.at, told)

    def test_no_row(self):
        for row, at in no_rows(self.bench):
            for wet, lot, when in ((1, self.lot, 0), (None, None, None), (-1, [()], -1)):
                self.refused(BadRow, at, how_wet, row, lot, when=when)
                self.refused(BadRow, at, let, row, wet, lot)
                self.refused(BadRow, at, led_back, row, wet, lot, when=when)
                self.refused(BadRow, at, is_clash, row, wet, lot, None, when=when)

    def test_no_wetness(self):
        for wet in [-1, -10 ** 30] + no_wholes():
            for lot, when in ((self.lot, 0), (None, None), ([()], -1)):
                self.refused(NoBeats, wet, let, self.row, wet, lot)
                self.refused(NoBeats, wet, led_back, self.row, wet, lot, when=when)
                self.refused(NoBeats, wet, is_clash, self.row, wet, lot, None, when=when)

    def test_no_lot(self):
        for lot, at in no_lots(self.bench):
            for when in (0, 3, None):
                self.refused(BadMarks, at, how_wet, self.row, lot, when=when)
                self.refused(BadMarks, at, led_back, self.row, 1, lot, when=when)
                self.refused(BadMarks, at, is_clash, self.row, 1, lot, None, when=when)
            self.refused(BadMarks, at, let, self.row, 1, lot)

    def test_no_moment(self):
        for when in [-1, 3, 4, 10 ** 30, -10 ** 30] + no_wholes():
            self.refused(NoBeats, when, how_wet, self.row, self.lot, when=when)
            self.refused(NoBeats, when, led_back, self.row, 1, self.lot, when=when)
            self.refused(NoBeats, when, is_clash, self.row, 1, self.lot, None, when=when)
        self.refused(NoBeats, 1, how_wet, [], self.lot, when=1)
        self.assertEqual(how_wet(self.shop, self.row, self.lot, when=2), [(self.lot[0], None)])


if __name__ == "__main__":
    unittest.main()
