"""Points 41 to 45: orders of deeds, against the test's own walk of both orders, beat by beat."""

import random
import unittest
from itertools import permutations

from benches import Bench, every_plies, no_deeds, no_rows, short_benches, some_rows, total
from walks import no_wholes
from wetmarks.drums import Drum
from wetmarks.errors import BadRow, NoBeats, TooMany
from wetmarks.orders import matters, may_change, outcomes, parts
from wetmarks.shops import Shop

GREAT = 10 ** 30 - 1


def some_pairs(bench, many):
    """Pairs of deeds by a chance that is the same each time: alike ones, open ones, of no beats."""
    chance = random.Random(len(bench.faces) + 41)
    plies = [most for most in every_plies(bench, 60) if len(most) > 1] or every_plies(bench, 4)
    rolls = [("roll", chance.randrange(len(bench.drums)), chance.choice(plies)) for _ in range(many)]
    pairs = [(("open", 2), ("open", 3)), (("open", 0), rolls[0] + (2,)), (rolls[0] + (1,), ("open", 3)),
             (rolls[0] + (0,), rolls[1] + (4,)), (rolls[0] + (2,), rolls[0] + (2,)),
             (rolls[0] + (1,), rolls[0] + (3,)), (rolls[1] + (1,), rolls[0] + (1,))]
    while len(pairs) < many:
        pairs.append(tuple(chance.choice(rolls) + (chance.choice((1, 1, 2, 3, 5)),) for _ in range(2)))
    return pairs


def own_stretches(unlike):
    """The stretches of the places above 0 at which a list is true; it goes on as it ends."""
    told = []
    for wet in range(1, len(unlike)):
        if unlike[wet] and not unlike[wet - 1]:
            told.append((wet, None))
        if not unlike[wet] and unlike[wet - 1]:
            told[-1] = (told[-1][0], wet - 1)
    return told


class SmallOrders(unittest.TestCase):
    """Each test holds one function against the webs of both orders, walked at each wetness."""

    @classmethod
    def setUpClass(cls):
        cls.cases = []
        for bench in short_benches():
            for one, other in some_pairs(bench, 26):
                wets = range(one[-1] + other[-1] + 2)
                webs = [[bench.web(row, wet) for wet in wets] for row in ([one, other], [other, one])]
                cls.cases.append((bench, one, other, webs))

    def test_matters(self):
        for bench, one, other, (mine, theirs) in self.cases:
            told = own_stretches([a != b for a, b in zip(mine, theirs)])
            self.assertEqual(matters(bench.shop, one, other), told)
            self.assertEqual(matters(bench.shop, other, one), told)

    def test_the_cases_hold_stretches_of_each_kind(self):
        found = [matters(bench.shop, one, other) for bench, one, other, _ in self.cases]
        kinds = {tuple(high is None for _, high in told) for told in found}
        self.assertTrue({(), (True,), (False,)} <= kinds, kinds)

    def test_parts(self):
        for bench, one, other, (mine, theirs) in self.cases:
            for wet, (first, second) in enumerate(zip(mine, theirs)):
                told = None
                for (face, shown), (_, seen) in zip(first, second):
                    if shown != seen and told is None:
                        least = min(set(shown) ^ set(seen))
                        told = (face, least, 0 if least in shown else 1)
                self.assertEqual(parts(bench.shop, one, other, wet), told)
                if told is not None:
                    self.assertEqual(parts(bench.shop, other, one, wet), told[:2] + (1 - told[2],))
            self.assertEqual(parts(bench.shop, one, other, GREAT), parts(bench.shop, one, other, len(mine) - 1))

    def test_both_ways_about_are_told(self):
        found = {parts(bench.shop, one, other, wet)[2] for bench, one, other, webs in self.cases
                 for wet in range(len(webs[0])) if parts(bench.shop, one, other, wet)}
        self.assertEqual(found, {0, 1})

    def test_it_never_matters_just_where_the_same_faces_touch(self):
        for bench, one, other, _ in self.cases:
            told = matters(bench.shop, one, other)
            if one[-1] and other[-1]:
                touches = [{face: set(near) for face, near in bench.near(deed).items()} for deed in (one, other)]
                self.assertEqual(told == [], touches[0] == touches[1])
            else:
                self.assertEqual(told, [])

    def test_where_it_matters_it_does_at_wetness_1(self):
        for bench, one, other, _ in self.cases:
            self.assertIs(parts(bench.shop, one, other, 0), None)
            for low, _ in matters(bench.shop, one, other)[:1]:
                self.assertEqual(low, 1)

    def test_where_it_matters_at_all_beats_and_more(self):
        for bench, one, other, (mine, _) in self.cases:
            told = matters(bench.shop, one, other)
            shown = {(face, seen) for face, all_seen in mine[-1] for seen in all_seen}
            lopsided = any((seen, face) not in shown for face, seen in shown)
            self.assertEqual(bool(told) and told[-1][1] is None, lopsided)

    def test_a_row_told_backwards(self):
        for bench, one, other, _ in self.cases:
            row = [one, other, one]
            for forth, back in ((row, row[::-1]), ([one, other], [other, one])):
                mine, theirs = [dict(bench.web(told, total(row))) for told in (forth, back)]
                for face in bench.faces:
                    self.assertEqual(mine[face], [seen for seen in bench.faces if face in theirs[seen]])

    def test_may_change(self):
        for bench in short_benches():
            for row in some_rows(bench, 12, 3):
                for wet in {0, 1, total(row) - 1, total(row), total(row) // 2, total(row) + 3}:
                    if wet >= 0:
                        told = may_change(bench.shop, row, wet)
                        self.assertEqual(told, self.own_changes(bench, row, wet))
                        whole = bench.web(row, wet)
                        for k in told:
                            changed = row[:k] + [row[k + 1], row[k]] + row[k + 2:]
                            self.assertEqual(bench.web(changed, wet), whole)

    def own_changes(self, bench, row, wet):
        told = []
        for k in range(len(row) - 1):
            left = max(0, wet - total(row[:k]))
            if bench.web([row[k], row[k + 1]], left) == bench.web([row[k + 1], row[k]], left):
                told.append(k)
        return told

    def test_nor_behind_any_more_rollings(self):
        for bench in short_benches():
            rows = some_rows(bench, 8, 3)
            for row, more in zip(rows, rows[1:]):
                for k in may_change(bench.shop, row, total(row)):
                    changed = row[:k] + [row[k + 1], row[k]] + row[k + 2:]
                    wet = total(row) + total(more)
                    if k in may_change(bench.shop, row + more, wet):
                        self.assertEqual(bench.web(changed + more, wet), bench.web(row + more, wet))

    def test_outcomes(self):
        for bench in short_benches():
            chance = random.Random(44)
            deeds = [deed for pair in some_pairs(bench, 12) for deed in pair]
            for many in (1, 2, 2, 3, 3, 3, 4):
                row = [chance.choice(deeds) for _ in range(many)]
                for wet in {0, 1, 2, max(0, total(row) - 1), total(row)}:
                    self.assertEqual(outcomes(bench.shop, row, wet), self.own_outcomes(bench, row, wet))
                self.assertEqual(outcomes(bench.shop, row, GREAT), outcomes(bench.shop, row, total(row)))

    def own_outcomes(self, bench, row, wet):
        groups = {}
        for order in permutations(range(len(row))):
            web = repr(bench.web([row[k] for k in order], wet))
            groups.setdefault(web, []).append(order)
        return sorted((min(orders), len(orders)) for orders in groups.values())

    def test_outcomes_of_five_deeds(self):
        bench = short_benches()[2]
        deeds = [deed for pair in some_pairs(bench, 14)[-3:] for deed in pair]
        for row in (deeds[:5], deeds[1:6], [("open", 1)] * 5, [deeds[0], ("open", 2)] * 2 + [deeds[1]]):
            for wet in (0, 2, total(row)):
                told = outcomes(bench.shop, row, wet)
                self.assertEqual(told, self.own_outcomes(bench, row, wet))
                self.assertEqual(sum(many for _, many in told), 120)

    def test_deeds_that_are_alike_are_two(self):
        bench = short_benches()[0]
        deed = ("roll", 0, [(0, "head", "back")], 2)
        for row in ([deed, deed], [deed, ("roll", 0, [(0, "head", "back")], 2)], [("open", 1), ("open", 1)]):
            self.assertEqual(outcomes(bench.shop, row, 4), [((0, 1), 2)])
        self.assertEqual(outcomes(bench.shop, [deed] * 5, 9), [((0, 1, 2, 3, 4), 120)])


class NothingInCommon(unittest.TestCase):

    def test_rollings_of_no_strip_and_no_drum_in_common(self):
        bench = Bench([(2, 1), (3, 2)], [7, 8, 5, 4])
        chance = random.Random(42)
        for _ in range(60):
            one = ("roll", 0, [(n, chance.choice(("head", "tail")), "back") for n in (0, 1)], chance.randint(1, 4))
            other = ("roll", 1, [(n, "head", chance.choice(("front", "back"))) for n in (3, 2)], chance.randint(1, 4))
            wet = one[-1] + other[-1]
            for told in (wet, wet + 1, GREAT):
                self.assertIs(parts(bench.shop, one, other, told), None)
                self.assertEqual(may_change(bench.shop, [one, other, one], told)[:1], [0])
            self.assertEqual(matters(bench.shop, one, other)[-1][1], wet - 1)
            self.assertEqual(bench.web([one, other], wet), bench.web([other, one], wet))


class GreatBeats(unittest.TestCase):
    """Points 42 and 45 on beats of thirty figures."""

    def setUp(self):
        self.benches = [Bench([(3, 1)], [8, 3]), Bench([(2, 2), (3, 0)], [6, 5, 2])]

    def test_great_beats_are_as_few(self):
        # No tree of these benches is as wide as so many beats.
        enough = 14
        for bench in self.benches:
            for one, other in some_pairs(bench, 24):
                for mine, theirs in ((10 ** 29, 3), (1, 10 ** 28), (10 ** 29, 10 ** 29 - 7)):
                    great = (one[:-1] + (mine,), other[:-1] + (theirs,))
                    few = tuple(deed[:-1] + (min(deed[-1], enough),) for deed in great)
                    told = [low for low, _ in matters(bench.shop, *great)]
                    self.assertEqual(len(told), len(matters(bench.shop, *few)))
                    for wet in (0, 1, 2, 3):
                        self.assertEqual(parts(bench.shop, *great, wet), parts(bench.shop, *few, wet))
                    whole, fewer = sum(deed[-1] for deed in great), sum(deed[-1] for deed in few)
                    for more in (0, 1, 10 ** 20):
                        self.assertEqual(parts(bench.shop, *great, whole + more), parts(bench.shop, *few, fewer))

    def test_matters_is_just_where_parts_tells(self):
        for bench in self.benches:
            for one, other in some_pairs(bench, 24):
                great = (one[:-1] + (10 ** 29 + 5,), other[:-1] + (10 ** 28,))
                told = matters(bench.shop, *great)
                for low, high in told:
                    self.assertIsNotNone(parts(bench.shop, *great, low))
                    self.assertTrue(low == 1 or parts(bench.shop, *great, low - 1) is None)
                    if high is not None:
                        self.assertIsNotNone(parts(bench.shop, *great, high))
                        self.assertIs(parts(bench.shop, *great, high + 1), None)
                for wet in (1, 2, 5, 10 ** 28 - 1, 10 ** 28, 10 ** 28 + 3, 10 ** 29 + 5, 10 ** 29 + 9, GREAT):
                    held = any(low <= wet and (high is None or wet <= high) for low, high in told)
                    self.assertEqual(parts(bench.shop, *great, wet) is not None, held, wet)

    def test_may_change_and_outcomes(self):
        for bench in self.benches:
            deeds = [deed[:-1] + (10 ** 28,) for pair in some_pairs(bench, 12)[-2:] for deed in pair]
            few = [deed[:-1] + (14,) for deed in deeds]
            for great_wet, wet in ((0, 0), (1, 1), (10 ** 28 - 1, 13), (10 ** 28, 14), (10 ** 28 + 2, 16),
                                   (2 * 10 ** 28, 28), (GREAT, 99)):
                self.assertEqual(may_change(bench.shop, deeds, great_wet), may_change(bench.shop, few, wet))
                self.assertEqual(outcomes(bench.shop, deeds, great_wet), outcomes(bench.shop, few, wet))

    def test_the_greatest_shop(self):
        shop = Shop([Drum(13, 1), Drum(1, 10 ** 15 - 1), Drum(40, 0)], [40] * 6)
        chance = random.Random(43)
        row = []
        for _ in range(40):
            plies = [(strip, chance.choice(["head", "tail"]), chance.choice(["back", "front"]))
                     for strip in chance.sample(range(6), 3)]
            row.append(("roll", chance.randrange(3), plies, 10 ** 28))
        told = may_change(shop, row, GREAT)
        self.assertEqual(told, [k for k in range(39) if parts(shop, row[k], row[k + 1], 10 ** 29) is None])
        self.assertEqual(may_change(shop, row, 10 ** 28), [k for k in range(39) if k or not matters(shop, *row[:2])])
        self.assertEqual(sum(many for _, many in outcomes(shop, row[:5], GREAT)), 120)


class ByHand(unittest.TestCase):

    def setUp(self):
        # Drum 0 has a place a turn: each cell of a strip lies on the one ahead.
        self.shop = Shop([Drum(1, 0), Drum(2, 0)], [2])
        self.one = ("roll", 0, [(0, "head", "back")], 1)
        self.other = ("roll", 1, [(0, "head", "back")], 1)

    def test_two_deeds(self):
        # By the one the drum's cell touches the head, and the head's front the tail.
        drum, cell, head = ("drum", 0, 0, "out"), ("drum", 1, 0, "out"), ("strip", 0, 0, "back")
        self.assertEqual(matters(self.shop, self.one, self.other), [(1, None)])
        self.assertEqual(parts(self.shop, self.one, self.other, 1), (drum, head, 0))
        self.assertEqual(parts(self.shop, self.one, self.other, 2), (drum, cell, 0))
        self.assertEqual(parts(self.shop, self.other, self.one, 2), (drum, cell, 1))
        self.assertIs(parts(self.shop, self.one, self.other, 0), None)
        self.assertEqual(outcomes(self.shop, [self.one, self.other], 2), [((0, 1), 1), ((1, 0), 1)])
        self.assertEqual(outcomes(self.shop, [self.one, self.other], 0), [((0, 1), 2)])

    def test_an_open_deed(self):
        shop = Shop([Drum(1, 0)], [1])
        roll, free = ("roll", 0, [(0, "head", "back")], 4), ("open", 3)
        self.assertEqual(matters(shop, roll, free), [(1, 3)])
        drum, strip = ("drum", 0, 0, "out"), ("strip", 0, 0, "back")
        self.assertEqual(parts(shop, roll, free, 3), (drum, strip, 0))
        self.assertEqual(parts(shop, free, roll, 3), (drum, strip, 1))
        self.assertIs(parts(shop, roll, free, 4), None)
        self.assertEqual(may_change(shop, [roll, free, roll], 4), [0, 1])
        self.assertEqual(may_change(shop, [free, roll], 3), [])
        self.assertEqual(may_change(shop, [roll, free, roll], 6), [0])
        self.assertEqual(may_change(shop, [roll, free, roll], 8), [0, 1])
        self.assertEqual(may_change(shop, [("open", 3), free, roll], 5), [0])
        self.assertEqual(outcomes(shop, [roll, free], 3), [((0, 1), 1), ((1, 0), 1)])
        self.assertEqual(outcomes(shop, [free, roll], 4), [((0, 1), 2)])

    def test_deeds_of_no_beats(self):
        for idle in (("open", 0), self.one[:-1] + (0,)):
            self.assertEqual(matters(self.shop, idle, self.other), [])
            self.assertEqual(matters(self.shop, self.other, idle), [])
            self.assertIs(parts(self.shop, idle, self.other, GREAT), None)
            self.assertEqual(may_change(self.shop, [idle, self.other, idle], GREAT), [0, 1])

    def test_rows_of_few_deeds_and_of_forty(self):
        self.assertEqual(may_change(self.shop, [], 3), [])
        self.assertEqual(may_change(self.shop, [self.one], 3), [])
        self.assertEqual(may_change(self.shop, [self.one] * 40, 3), list(range(39)))
        row = [self.one, self.other] * 20
        self.assertEqual(may_change(self.shop, row, 5), list(range(5, 39)))
        self.assertEqual(may_change(self.shop, row, GREAT), [])
        self.assertEqual(outcomes(self.shop, [self.one], 3), [((0,), 1)])

    def test_by_name(self):
        self.assertEqual(matters(other=self.other, one=self.one, shop=self.shop), [(1, None)])
        self.assertEqual(parts(wet=1, other=self.other, one=self.one, shop=self.shop)[2], 0)
        self.assertEqual(may_change(wet=9, row=[self.one, self.one], shop=self.shop), [0])
        self.assertEqual(outcomes(wet=9, row=[self.one, self.one], shop=self.shop), [((0, 1), 2)])


class Refused(unittest.TestCase):

    def setUp(self):
        self.bench = Bench([(3, 1), (2, 0)], [4, 2, 5, 1])
        self.shop = self.bench.shop
        self.deed = ("roll", 0, every_plies(self.bench, 9)[-1], 2)

    def refused(self, error, told, ask, *arguments):
        with self.assertRaises(error) as caught:
            ask(self.shop, *arguments)
        self.assertIs(type(caught.exception), error)
        field = {BadRow: "at", NoBeats: "beats", TooMany: "many"}[error]
        if error is NoBeats:
            self.assertIs(caught.exception.beats, told)
        else:
            self.assertEqual(getattr(caught.exception, field), told)

    def test_no_deed(self):
        for thing in no_deeds(self.bench):
            self.refused(BadRow, 0, matters, thing, self.deed)
            self.refused(BadRow, 0, matters, thing, thing)
            self.refused(BadRow, 1, matters, self.deed, thing)
            for wet in (1, None, -1):
                self.refused(BadRow, 0, parts, thing, self.deed, wet)
                self.refused(BadRow, 0, parts, thing, thing, wet)
                self.refused(BadRow, 1, parts, self.deed, thing, wet)
        self.refused(BadRow, 0, matters, [self.deed], self.deed)

    def test_no_row(self):
        for row, at in no_rows(self.bench):
            for wet in (1, None, -1):
                self.refused(BadRow, at, may_change, row, wet)
                self.refused(BadRow, at, outcomes, row, wet)

    def test_too_many_deeds_and_none(self):
        for row in ([], [self.deed] * 6, [("open", 0)] * 6, [self.deed] * 40):
            for wet in (1, None, -1, True):
                self.refused(TooMany, 5, outcomes, row, wet)
        self.refused(BadRow, 5, outcomes, [self.deed] * 5 + [None], 1)
        self.refused(BadRow, -1, outcomes, [self.deed] * 41, 1)
        self.assertEqual(outcomes(self.shop, [self.deed] * 5, 1), [((0, 1, 2, 3, 4), 120)])

    def test_no_wetness(self):
        for wet in [-1, -10 ** 30] + no_wholes():
            self.refused(NoBeats, wet, parts, self.deed, self.deed, wet)
            self.refused(NoBeats, wet, outcomes, [self.deed], wet)
            for row in ([], [self.deed], [self.deed] * 3):
                self.refused(NoBeats, wet, may_change, row, wet)


if __name__ == "__main__":
    unittest.main()
