"""Points 52 to 56: wishes, against the test's own trying of all picks."""

import copy
import random
import unittest
from itertools import product

from benches import (Bench, every_plies, no_lists, no_lots, no_menus, no_shop_faces, short_benches, total)
from walks import Own, no_wholes
from wetmarks.drums import Drum
from wetmarks.errors import BadMarks, BadMenu, NoBeats, NoFace, TooMany
from wetmarks.rollings import apart, trees
from wetmarks.shops import Shop
from wetmarks.wishes import fewest, is_none, shown_by


def some_menus(bench, many):
    """Menus by a chance that is the same each time, some of deeds that are alike."""
    chance = random.Random(len(bench.faces) + 52)
    plies = [most for most in every_plies(bench, 60) if len(most) > 1] or every_plies(bench, 4)
    menus = []
    while len(menus) < many:
        menu = []
        for _ in range(chance.choice((1, 2, 2, 3))):
            deed = ("roll", chance.randrange(len(bench.drums)), chance.choice(plies))
            menu.append(deed + (chance.choice((1, 1, 2, 3)),))
        if chance.random() < 0.2:
            menu.append(menu[0])
        menus.append(menu)
    return menus


def own_stand(bench, menu, face, wet, picks):
    """The faces that show behind picks, and for how many beats the spot is wet yet."""
    row = [menu[k] for k in picks]
    return (sorted(bench.walk(row, (face, 0, wet))), max(0, wet - total(row)))


def own_fewest(bench, menu, face, wet, must, bare):
    """Point 53 by trying all picks, those of one deed more each time, till no stand is new."""
    stands, many, found = [], 0, True
    while found:
        found = []
        for picks in product(range(len(menu)), repeat=many):
            stand = own_stand(bench, menu, face, wet, picks)
            if not set(stand[0]) & set(bare):
                if set(must) <= set(stand[0]):
                    return ("picks", list(picks), sorted(stands))
                if stand not in stands and stand not in found:
                    found.append(stand)
        stands += found
        many += 1
    return ("none", sorted(stands))


def own_is_none(bench, menu, face, wet, must, bare, thing):
    """Point 54's own words, of a list of tuples of a list of faces and a whole number from 0 on."""
    for stand in thing:
        if sorted(set(stand[0])) != stand[0] or stand[1] > 1000:
            return False
    if sorted(thing) != thing or any(one == other for one, other in zip(thing, thing[1:])):
        return False
    if face not in bare and ([face], wet) not in thing:
        return False
    for faces, left in thing:
        if not set(faces) & set(bare):
            if set(must) <= set(faces):
                return False
            for deed in menu:
                shown = set()
                for one in faces:
                    shown |= set(bench.walk([deed], (one, 0, left)))
                if not shown & set(bare) and (sorted(shown), max(0, left - deed[-1])) not in thing:
                    return False
    return True


class SmallMenus(unittest.TestCase):

    @classmethod
    def setUpClass(cls):
        chance = random.Random(53)
        cls.cases = []
        for bench in short_benches():
            for menu in some_menus(bench, 14):
                for _ in range(5):
                    wet = chance.choice((0, 1, 2, 3, 4, 5))
                    picks = [chance.randrange(len(menu)) for _ in range(chance.randint(0, 3))]
                    touched = list(bench.near(menu[0])) + bench.faces[:1]
                    face = chance.choice(touched)
                    shown = own_stand(bench, menu, face, wet, picks)[0]
                    must = chance.sample(shown, min(len(shown), chance.choice((0, 1, 2, 2, 3))))
                    others = [one for one in bench.faces if one not in must]
                    if others and chance.random() < 0.3:
                        must.append(others.pop(chance.randrange(len(others))))
                    bare = chance.sample(others, min(len(others), chance.choice((0, 0, 1, 2, 4))))
                    cls.cases.append((bench, (menu, face, wet, must, bare)))
        cls.told = [own_fewest(bench, *asked) for bench, asked in cls.cases]

    def test_fewest(self):
        for (bench, asked), told in zip(self.cases, self.told):
            self.assertEqual(fewest(bench.shop, *asked), told)

    def test_wishes_of_each_kind_are_told(self):
        kinds = [(told[0], len(told[1]) if told[0] == "picks" else min(2, len(told[1]))) for told in self.told]
        for kind in (("picks", 0), ("picks", 1), ("picks", 2), ("none", 0), ("none", 1), ("none", 2)):
            self.assertGreater(kinds.count(kind), 5, kind)
        self.assertGreater(max(len(told[-1]) for told in self.told), 12)
        self.assertTrue([asked for _, asked in self.cases if asked[1] in asked[4]])

    def test_told_stands_show_that_there_is_none(self):
        for (bench, asked), told in zip(self.cases, self.told):
            held = own_is_none(bench, *asked, told[-1])
            self.assertIs(is_none(bench.shop, *asked, told[-1]), held)
            self.assertEqual(held, told[0] == "none")

    def test_spoiled_stands(self):
        found = {True: 0, False: 0}
        for (bench, asked), told in zip(self.cases, self.told):
            for thing in self.spoiled(bench, asked, told[-1]):
                judged = own_is_none(bench, *asked, thing)
                self.assertIs(is_none(bench.shop, *asked, thing), judged, (asked, thing))
                found[judged] += 1
        self.assertGreater(found[True], 100)
        self.assertGreater(found[False], 1000)

    def spoiled(self, bench, asked, stands):
        """What stands are with one less, or more, or another one."""
        menu, face, wet, must, bare = asked
        more = [([], 0), ([], wet), ([], 1000), ([], 1001), (bench.faces, 0), (sorted(bare), 7), ([face], 0)]
        more += [(bench.faces[::-1], 0), ([face, face], 0), (sorted(set(must)), 0)]
        for stand in more:
            yield sorted(stands + [stand])
        # What none leads on to, with all that it leads to.
        yield sorted(stands + [([], left) for left in range(wet + 1)])
        yield sorted(stands + [(bench.faces, left) for left in range(wet + 1)])
        yield stands[::-1]
        yield stands + stands[-1:]
        yield []
        for at, (faces, left) in enumerate(stands[:9]):
            yield stands[:at] + stands[at + 1:]
            yield sorted(stands[:at] + stands[at + 1:] + [(faces, left + 1)])
            yield sorted(stands[:at] + stands[at + 1:] + [(faces[1:], left)])

    def test_shown_by(self):
        kinds = set()
        for at, (bench, (menu, face, wet, must, _)) in enumerate(self.cases):
            most = (0, 1, 2, 3, 4, 2)[at % 6] if len(menu) < 4 else at % 3
            lots = [must, own_stand(bench, menu, face, wet, [0] * (at % 3))[0], bench.faces[::-1], [face], []]
            for lot in lots:
                every = [picks for many in range(most + 1) for picks in product(range(len(menu)), repeat=many)]
                found = [list(picks) for picks in every
                         if own_stand(bench, menu, face, wet, picks)[0] == sorted(lot)]
                told = ("picks", found) if found else ("none", self.own_tree(bench, menu, face, wet, lot, most, []))
                self.assertEqual(shown_by(bench.shop, menu, face, wet, lot, most), told)
                kinds.add((told[0], most, len(found) > 1 or told[1][0] == "lacks"))
        self.assertTrue({("picks", most, True) for most in (1, 2, 3, 4)} <= kinds)
        self.assertTrue({("none", most, True) for most in (0, 1, 2, 3, 4)} <= kinds)

    def own_tree(self, bench, menu, face, wet, lot, most, picks):
        shown = own_stand(bench, menu, face, wet, picks)[0]
        if set(shown) - set(lot):
            return ("inks", min(set(shown) - set(lot)))
        deeds = range(len(menu)) if len(picks) < most else []
        trees = [self.own_tree(bench, menu, face, wet, lot, most, picks + [k]) for k in deeds]
        return ("lacks", min(set(lot) - set(shown)), trees)


class ByHand(unittest.TestCase):

    def setUp(self):
        # Drum 0 has a place a turn: each cell of a strip lies on the one ahead.
        self.bench = Bench([(1, 0)], [3])
        self.shop = self.bench.shop
        self.drum = ("drum", 0, 0, "out")
        self.back = [("strip", 0, cell, "back") for cell in range(3)]
        self.front = [("strip", 0, cell, "front") for cell in range(3)]
        self.menu = [("roll", 0, [(0, "head", "back")], 1), ("roll", 0, [(0, "tail", "back")], 1)]

    def test_a_wish_that_is_true_at_once(self):
        self.assertEqual(fewest(self.shop, self.menu, self.drum, 5, [], []), ("picks", [], []))
        self.assertEqual(fewest(self.shop, self.menu, self.drum, 0, [self.drum], self.back), ("picks", [], []))

    def test_a_wish_that_comes_true(self):
        told = fewest(self.shop, self.menu, self.drum, 5, [self.back[2]], [])
        self.assertEqual(told, ("picks", [1], [([self.drum], 5)]))
        told = fewest(self.shop, self.menu, self.drum, 5, [self.back[2], self.back[0]], [])
        self.assertEqual(told, ("picks", [0, 1], [([self.drum], 5), ([self.drum, self.back[0]], 4),
                                                  ([self.drum, self.back[2]], 4)]))

    def test_a_wish_that_never_comes_true(self):
        told = fewest(self.shop, self.menu, self.drum, 1, [self.back[2], self.back[0]], [])
        stands = [([self.drum], 1), ([self.drum, self.back[0]], 0), ([self.drum, self.back[2]], 0)]
        self.assertEqual(told, ("none", stands))
        told = fewest(self.shop, self.menu, self.drum, 9, [self.back[2]], [self.back[0], self.back[2]][:1] + self.front)
        self.assertEqual(told[:2], ("picks", [1]))
        told = fewest(self.shop, self.menu, self.drum, 9, [self.back[1]], [self.back[0], self.back[2]])
        self.assertEqual(told, ("none", [([self.drum], 9)]))

    def test_a_spot_that_is_dry(self):
        told = fewest(self.shop, self.menu, self.drum, 0, [self.back[0]], [])
        self.assertEqual(told, ("none", [([self.drum], 0)]))

    def test_the_face_itself_is_to_stay_bare(self):
        for must in ([], [self.back[0]]):
            self.assertEqual(fewest(self.shop, self.menu, self.drum, 5, must, [self.drum]), ("none", []))
            for thing, told in (([], True), ([([self.drum], 5)], True), ([([self.back[0]], 5)], False)):
                self.assertIs(is_none(self.shop, self.menu, self.drum, 5, must, [self.drum], thing), told)

    def test_is_none(self):
        asked = (self.shop, self.menu, self.drum, 1, [self.back[2], self.back[0]], [])
        stands = [([self.drum], 1), ([self.drum, self.back[0]], 0), ([self.drum, self.back[2]], 0)]
        self.assertIs(is_none(*asked, stands), True)
        # More of them than can be come to.
        self.assertIs(is_none(*asked, [([], 0)] + stands), True)
        self.assertIs(is_none(*asked, [([], 1000)] + stands), False)
        self.assertIs(is_none(*asked, [([], left) for left in range(1001)] + stands), True)
        self.assertIs(is_none(*asked, [([], left) for left in range(1002)] + stands), False)
        self.assertIs(is_none(*asked, stands[:2]), False)
        self.assertIs(is_none(*asked, stands[1:]), False)
        self.assertIs(is_none(*asked, stands[::-1]), False)
        self.assertIs(is_none(*asked, stands + stands[2:]), False)

    def test_shown_by(self):
        asked = (self.shop, self.menu, self.drum, 3)
        self.assertEqual(shown_by(*asked, [self.drum], 0), ("picks", [[]]))
        self.assertEqual(shown_by(*asked, [self.drum], 4), ("picks", [[]]))
        self.assertEqual(shown_by(*asked, [self.back[0], self.drum], 2), ("picks", [[0], [0, 0]]))
        told = shown_by(*asked, [self.drum, self.back[0], self.front[1], self.back[2]], 3)
        self.assertEqual(told, ("picks", [[0, 1], [1, 0], [0, 0, 1], [0, 1, 0], [0, 1, 1], [1, 0, 0], [1, 0, 1],
                                          [1, 1, 0]]))
        self.assertEqual(shown_by(*asked, [], 4), ("none", ("inks", self.drum)))
        inks = ("inks", self.back[2])
        self.assertEqual(shown_by(*asked, [self.drum, self.back[0], self.front[2]], 1),
                         ("none", ("lacks", self.back[0], [("lacks", self.front[2], []), inks])))
        self.assertEqual(shown_by(*asked, [self.drum, self.back[0]], 0), ("none", ("lacks", self.back[0], [])))

    def test_six_rollings_and_a_thousand_beats(self):
        menu = [self.menu[k % 2][:-1] + (1000,) for k in range(6)]
        told = fewest(self.shop, menu, self.drum, 1000, [self.back[2]], [])
        self.assertEqual(told, ("picks", [1], [([self.drum], 1000)]))
        self.assertEqual(shown_by(self.shop, menu, self.drum, 1000, [self.drum, self.back[2]], 2),
                         ("picks", [[1], [3], [5]] + [[a, b] for a in (1, 3, 5) for b in range(6)]))

    def test_by_name(self):
        wish = {"menu": self.menu, "face": self.drum, "wet": 5, "must": [], "bare": []}
        self.assertEqual(fewest(shop=self.shop, **wish), ("picks", [], []))
        self.assertIs(is_none(thing=[], shop=self.shop, **wish), False)
        told = shown_by(most=0, lot=[self.drum], wet=1, face=self.drum, menu=self.menu, shop=self.shop)
        self.assertEqual(told, ("picks", [[]]))


class FiveHundredStands(unittest.TestCase):

    def setUp(self):
        self.shop = Shop([Drum(1, 0)], [2])
        self.drum, self.tail = ("drum", 0, 0, "out"), ("strip", 0, 1, "front")
        self.head = ("strip", 0, 0, "back")
        # One beat each: the stands are the wetnesses that are left.
        self.menu = [("roll", 0, [(0, "head", "back")], 1)]

    def test_five_hundred_are_told(self):
        told = fewest(self.shop, self.menu, self.drum, 499, [self.tail], [])
        self.assertEqual((told[0], len(told[1])), ("none", 500))
        self.assertIs(is_none(self.shop, self.menu, self.drum, 499, [self.tail], [], told[1]), True)

    def test_more_are_refused(self):
        for wet in (500, 501, 1000):
            with self.assertRaises(TooMany) as caught:
                fewest(self.shop, self.menu, self.drum, wet, [self.tail], [])
            self.assertEqual(caught.exception.many, 500)

    def test_stands_that_need_not_be_told_are_not_counted(self):
        # The wish comes true ahead of them.
        told = fewest(self.shop, self.menu, self.drum, 1000, [self.head], [])
        self.assertEqual(told, ("picks", [0], [([self.drum], 1000)]))
        self.assertEqual(fewest(self.shop, self.menu, self.drum, 1000, [self.tail], [self.head]),
                         ("none", [([self.drum], 1000)]))

    def test_a_wish_that_comes_true_behind_just_as_many_stands(self):
        # One rolling brings the ink a face farther in a long tree, the other one does nothing but dry it.
        shop = Shop([Drum(19, 1), Drum(1, 0)], [39, 1])
        plies = [(0, "head", "back")]
        tree, width = max(trees(shop, 0, plies), key=lambda told: told[1])
        face = max(tree, key=lambda one: max(apart(shop, 0, plies, one, other) for other in tree))
        steps = 32
        must = [one for one in tree if apart(shop, 0, plies, face, one) == steps]
        self.assertGreater(width, steps)
        for wet, idle, many in ((98, 4, 500), (75, 3, 501)):
            lefts = {(far, max(0, wet - far - idle * other)) for far in range(steps) for other in range(steps - far)}
            self.assertEqual(len(lefts), many)
            asked = (shop, [("roll", 0, plies, 1), ("roll", 1, [(1, "head", "back")], idle)], face, wet, must, [])
            if many > 500:
                with self.assertRaises(TooMany) as caught:
                    fewest(*asked)
                self.assertEqual(caught.exception.many, 500)
            else:
                word, picks, stands = fewest(*asked)
                self.assertEqual((word, picks, len(stands)), ("picks", [0] * steps, many))
                self.assertEqual({(max(apart(shop, 0, plies, face, one) for one in faces), left)
                                  for faces, left in stands}, lefts)
                self.assertIs(is_none(*asked, stands), False)


class Anything(unittest.TestCase):
    """Of anything it is told whether it is stands."""

    def setUp(self):
        self.bench = Bench([(2, 0), (3, 1)], [4, 2, 5, 1])
        self.menu = [("roll", 0, [(0, "head", "back"), (2, "tail", "front")], 3)]
        self.face = ("strip", 0, 1, "front")
        self.asked = (self.bench.shop, self.menu, self.face, 2, [("strip", 3, 0, "back")], [])
        self.stands = fewest(*self.asked)[1]

    def judged(self, thing):
        return is_none(*self.asked, thing)

    def test_other_kinds(self):
        self.assertIs(self.judged(self.stands), True)
        for thing in no_wholes() + no_lists() + [tuple(self.stands), dict.fromkeys([0, 1]), self.stands[0]]:
            self.assertIs(self.judged(thing), False)

    def test_amiss_within(self):
        faces, left = self.stands[-1]
        amiss = no_wholes() + [0, -1, (faces,), (faces, left, left), [faces, left], (left, faces), Own()]
        amiss += [(thing, 0) for thing in no_lists() + [tuple(faces), dict.fromkeys(faces), faces[0]]]
        amiss += [(faces, thing) for thing in no_wholes() + [-1, 1001, 10 ** 30]]
        amiss += [([thing], 0) for thing in no_shop_faces(self.bench)]
        amiss += [(faces + [thing], 0) for thing in no_shop_faces(self.bench)]
        for thing in amiss:
            self.assertIs(self.judged([thing]), False)
            self.assertIs(self.judged(self.stands + [thing]), False)
            self.assertIs(self.judged([thing] + self.stands), False)

    def test_nothing_handed_in_is_changed(self):
        kept = copy.deepcopy((self.menu, self.stands))
        self.judged(self.stands)
        self.assertEqual((self.menu, self.stands), kept)


class Refused(unittest.TestCase):

    def setUp(self):
        self.bench = Bench([(3, 1), (2, 0)], [4, 2, 5, 1])
        self.shop = self.bench.shop
        self.menu = [("roll", 0, every_plies(self.bench, 9)[-1], 2)]
        self.face, self.other = self.bench.faces[:2]

    def refused(self, error, told, *asked):
        """The last one of what is asked is refused, whatever is handed in behind it."""
        wish = [self.menu, self.face, 5, [self.face], [self.other]]
        for ask, good in ((fewest, wish), (is_none, wish + [None]), (shown_by, wish[:4] + [4])):
            if ask is shown_by and len(asked) > 3:
                continue
            for behind in (good, [None] * len(good), [-1] * len(good)):
                with self.assertRaises(error) as caught:
                    ask(self.shop, *asked, *behind[len(asked):])
                self.same(caught.exception, error, told)

    def same(self, caught, error, told):
        self.assertIs(type(caught), error)
        if error in (NoBeats, NoFace):
            self.assertIs(getattr(caught, {NoBeats: "beats", NoFace: "face"}[error]), told)
        else:
            self.assertEqual(caught.at, told)

    def test_no_menu(self):
        for menu, at in no_menus(self.bench):
            self.refused(BadMenu, at, menu)

    def test_no_face(self):
        for face in no_shop_faces(self.bench):
            self.refused(NoFace, face, self.menu, face)

    def test_no_wetness(self):
        for wet in [-1, 1001, 10 ** 30, -10 ** 30] + no_wholes():
            self.refused(NoBeats, wet, self.menu, self.face, wet)

    def test_no_must(self):
        for lot, at in no_lots(self.bench):
            self.refused(BadMarks, at, self.menu, self.face, 3, lot)

    def test_no_bare(self):
        for lot, at in no_lots(self.bench):
            self.refused(BadMarks, at, self.menu, self.face, 3, [], lot)
            self.refused(BadMarks, at, self.menu, self.face, 3, [("strip", 2, 4, "front")], lot)
        third = self.bench.faces[2]
        for bare, at in (([self.face], 0), ([third, self.face], 1), ([third, third, self.face], 1),
                         ([third, self.face, third], 1), ([third, self.other, None], 1)):
            self.refused(BadMarks, at, self.menu, self.face, 3, [self.other, self.face], bare)

    def test_no_lot_and_no_most(self):
        for lot, at in no_lots(self.bench):
            for most in (2, None, -1, 5):
                with self.assertRaises(BadMarks) as caught:
                    shown_by(self.shop, self.menu, self.face, 3, lot, most)
                self.same(caught.exception, BadMarks, at)
        for most in [-1, 5, 10 ** 30, -10 ** 30] + no_wholes():
            for lot in ([], [self.face], self.bench.faces):
                with self.assertRaises(NoBeats) as caught:
                    shown_by(self.shop, self.menu, self.face, 3, lot, most)
                self.same(caught.exception, NoBeats, most)

    def test_limits_are_none_to_refuse(self):
        deed = self.menu[0]
        menu = [deed[:-1] + (1000,)] * 6
        self.assertEqual(fewest(self.shop, menu, self.face, 1000, [], []), ("picks", [], []))
        self.assertEqual(shown_by(self.shop, menu, self.face, 0, [self.face], 0), ("picks", [[]]))
        self.assertEqual(len(shown_by(self.shop, menu, self.face, 0, [self.face], 4)[1]), 1 + 6 + 36 + 216 + 1296)


if __name__ == "__main__":
    unittest.main()
