"""Points 18 to 23: plies, what lies where, and what touches what."""

import unittest
from math import gcd

from benches import Bench, every_plies, no_plies, no_shop_faces, small_benches
from walks import no_wholes
from wetmarks.drums import Drum
from wetmarks.errors import BadDrum, BadPlies, NoFace
from wetmarks.gaps import pairs
from wetmarks.rollings import apart, laid, touching, trees
from wetmarks.shops import Shop


def turned_side(face):
    return face[:3] + ({"back": "front", "front": "back", "out": "out"}[face[3]],)


def renamed(found, change):
    """Pairs with their faces changed, sorted anew."""
    return sorted(tuple(sorted(change(face) for face in pair)) for pair in found)


class SmallShops(unittest.TestCase):
    """Each test holds one function against the test's own laying."""

    @classmethod
    def setUpClass(cls):
        cls.cases = [(bench, drum, plies) for bench in small_benches()
                     for drum in range(len(bench.drums)) for plies in every_plies(bench, 60)]

    def test_laid(self):
        for bench, _, plies in self.cases:
            self.assertEqual(laid(bench.shop, plies), bench.stacks(plies))

    def test_touching(self):
        for bench, drum, plies in self.cases:
            self.assertEqual(touching(bench.shop, drum, plies), bench.pairs(drum, plies))

    def test_trees(self):
        for bench, drum, plies in self.cases:
            lumps = {}
            for face in bench.faces:
                far = bench.far(drum, plies, face)
                if len(far) > 1:
                    lump = tuple(sorted(far))
                    lumps[lump] = max(lumps.get(lump, 0), max(far.values()))
            told = [(list(lump), lumps[lump]) for lump in sorted(lumps)]
            self.assertEqual(trees(bench.shop, drum, plies), told)

    def test_apart(self):
        for at, (bench, drum, plies) in enumerate(self.cases):
            if at % 9 == 0:
                for one in bench.faces[::3] + bench.faces[-1:]:
                    far = bench.far(drum, plies, one)
                    for other in bench.faces:
                        told = apart(bench.shop, drum, plies, one, other)
                        self.assertEqual(told, far.get(other))

    def test_trees_have_one_pair_less_than_faces(self):
        for bench, drum, plies in self.cases:
            found = touching(bench.shop, drum, plies)
            told = trees(bench.shop, drum, plies)
            self.assertEqual(len(found), sum(len(faces) - 1 for faces, _ in told))
            for faces, width in told:
                within = [pair for pair in found if pair[0] in faces]
                self.assertEqual(len(within), len(faces) - 1)
                self.assertTrue(all(pair[1] in faces for pair in within))
                self.assertTrue(1 <= width < len(faces))

    def test_no_tree_goes_beyond_one_gap(self):
        for bench, drum, plies in self.cases:
            gap = {}
            places = bench.turns(drum, max(bench.strips[ply[0]] for ply in plies))
            for place, stack in enumerate(bench.stacks(plies)):
                turn = places[place][0]
                for layer, (inward, outward) in enumerate(stack):
                    gap[inward] = ("turn", turn - 1) if layer == 0 else (place, layer - 1)
                    gap[outward] = ("turn", turn) if layer == len(stack) - 1 else (place, layer)
            for faces, _ in trees(bench.shop, drum, plies):
                self.assertEqual(len({gap.get(face, ("turn", -1)) for face in faces}), 1)
                cells = [face[:3] for face in faces]
                self.assertEqual(len(cells), len(set(cells)))

    def test_step_0_has_widths_of_1(self):
        for bench, drum, plies in self.cases:
            if bench.drums[drum][1] == 0:
                self.assertEqual({width for _, width in trees(bench.shop, drum, plies)}, {1})

    def test_faces_that_touch_lie_in_one_sector(self):
        for bench, drum, plies in self.cases:
            first, step = bench.drums[drum]
            places = bench.turns(drum, max(first, max(bench.strips)))
            sector = {}
            for place, stack in enumerate(bench.stacks(plies)):
                _, p, m = places[place]
                for inward, outward in stack:
                    sector[inward] = sector[outward] = p * gcd(first, step) // m
            for cell in range(first):
                sector[("drum", drum, cell, "out")] = cell * gcd(first, step) // first
            for one, other in touching(bench.shop, drum, plies):
                self.assertEqual(sector[one], sector[other])

    def test_a_ply_whose_other_side_is_inward(self):
        other_side = {"back": "front", "front": "back"}
        for bench, drum, plies in self.cases:
            for at, (strip, end, side) in enumerate(plies):
                turned = plies[:at] + [(strip, end, other_side[side])] + plies[at + 1:]
                told = renamed(touching(bench.shop, drum, plies), lambda face: turned_side(face)
                               if face[:2] == ("strip", strip) else face)
                self.assertEqual(touching(bench.shop, drum, turned), told)

    def test_a_ply_that_begins_by_its_other_end(self):
        other_end = {"head": "tail", "tail": "head"}
        for bench, drum, plies in self.cases:
            for at, (strip, end, side) in enumerate(plies):
                many = bench.strips[strip]
                turned = plies[:at] + [(strip, other_end[end], side)] + plies[at + 1:]
                told = renamed(touching(bench.shop, drum, plies), lambda face:
                               ("strip", strip, many - 1 - face[2], face[3])
                               if face[:2] == ("strip", strip) else face)
                self.assertEqual(touching(bench.shop, drum, turned), told)

    def test_a_longer_strip(self):
        for first, step in ((1, 0), (3, 1), (4, 6), (6, 3), (5, 0), (40, 7)):
            longest = touching(Shop([Drum(first, step)], [40]), 0, [(0, "head", "back")])
            for length in range(1, 41):
                shop = Shop([Drum(first, step)], [length])
                told = [pair for pair in longest
                        if all(face[0] == "drum" or face[2] < length for face in pair)]
                self.assertEqual(touching(shop, 0, [(0, "head", "back")]), told)
                # What touches between the turns of one strip is told by gaps, too.
                between = [pair for pair in told if pair[0][0] == "strip"]
                self.assertEqual(len(between), pairs(Drum(first, step), length))


class ByHand(unittest.TestCase):
    """A few answers written out by hand."""

    def setUp(self):
        self.shop = Shop([Drum(2, 1), Drum(9, 0)], [4, 2, 1])

    def test_plies_of_unlike_lengths(self):
        plies = [(1, "tail", "front"), (0, "head", "back")]
        self.assertEqual(laid(self.shop, plies), [
            [(("strip", 1, 1, "front"), ("strip", 1, 1, "back")),
             (("strip", 0, 0, "back"), ("strip", 0, 0, "front"))],
            [(("strip", 1, 0, "front"), ("strip", 1, 0, "back")),
             (("strip", 0, 1, "back"), ("strip", 0, 1, "front"))],
            [(("strip", 0, 2, "back"), ("strip", 0, 2, "front"))],
            [(("strip", 0, 3, "back"), ("strip", 0, 3, "front"))]])
        self.assertEqual(touching(self.shop, 0, plies), [
            (("drum", 0, 0, "out"), ("strip", 1, 1, "front")),
            (("drum", 0, 1, "out"), ("strip", 1, 0, "front")),
            (("strip", 0, 0, "back"), ("strip", 1, 1, "back")),
            (("strip", 0, 0, "front"), ("strip", 0, 2, "back")),
            (("strip", 0, 0, "front"), ("strip", 0, 3, "back")),
            (("strip", 0, 1, "back"), ("strip", 1, 0, "back")),
            (("strip", 0, 1, "front"), ("strip", 0, 3, "back"))])

    def test_trees_and_apart(self):
        plies = [(1, "tail", "front"), (0, "head", "back")]
        tree = [("strip", 0, 0, "front"), ("strip", 0, 1, "front"),
                ("strip", 0, 2, "back"), ("strip", 0, 3, "back")]
        self.assertEqual(trees(self.shop, 0, plies)[3], (tree, 3))
        self.assertEqual([apart(self.shop, 0, plies, tree[2], face) for face in tree], [1, 3, 0, 2])
        self.assertEqual(len(trees(self.shop, 0, plies)), 5)

    def test_a_roll_that_ends_within_turn_0(self):
        self.assertEqual(touching(self.shop, 1, [(1, "head", "back")]), [
            (("drum", 1, 0, "out"), ("strip", 1, 0, "back")),
            (("drum", 1, 1, "out"), ("strip", 1, 1, "back"))])
        self.assertIs(apart(self.shop, 1, [(1, "head", "back")], ("drum", 1, 0, "out"),
                            ("drum", 1, 1, "out")), None)

    def test_a_strip_of_one_cell(self):
        plies = [(2, "tail", "back")]
        self.assertEqual(laid(self.shop, plies), [[(("strip", 2, 0, "back"), ("strip", 2, 0, "front"))]])
        told = [("drum", 0, 0, "out"), ("strip", 2, 0, "back")]
        self.assertEqual(trees(self.shop, 0, plies), [(told, 1)])

    def test_a_face_that_touches_nothing(self):
        lone = ("strip", 0, 0, "back")
        self.assertEqual(apart(self.shop, 0, [(2, "head", "back")], lone, lone), 0)
        self.assertIs(apart(self.shop, 0, [(2, "head", "back")], lone, ("strip", 0, 0, "front")), None)
        self.assertIs(apart(self.shop, 0, [(0, "head", "back")], lone, ("strip", 0, 0, "front")), None)

    def test_all_three_plies(self):
        shop = Shop([Drum(1, 0)], [1, 3, 2])
        plies = [(0, "head", "back"), (2, "head", "front"), (1, "tail", "back")]
        self.assertEqual(touching(shop, 0, plies), [
            (("drum", 0, 0, "out"), ("strip", 0, 0, "back")),
            (("strip", 0, 0, "front"), ("strip", 2, 0, "front")),
            (("strip", 1, 0, "back"), ("strip", 1, 1, "front")),
            (("strip", 1, 1, "back"), ("strip", 2, 1, "back")),
            (("strip", 1, 2, "back"), ("strip", 2, 0, "back")),
            (("strip", 1, 2, "front"), ("strip", 2, 1, "front"))])

    def test_great_steps(self):
        shop = Shop([Drum(2, 10 ** 15 - 1)], [40])
        found = touching(shop, 0, [(0, "head", "back")])
        self.assertEqual(len(found), 40)
        self.assertTrue(all((("strip", 0, 0, "front"), ("strip", 0, c, "back")) in found for c in range(2, 40)))
        self.assertEqual(trees(shop, 0, [(0, "head", "back")])[-1][1], 2)

    def test_by_name(self):
        plies = [(1, "head", "back")]
        face = ("drum", 1, 0, "out")
        self.assertEqual(laid(plies=plies, shop=self.shop), laid(self.shop, plies))
        self.assertEqual(touching(plies=plies, drum=1, shop=self.shop), touching(self.shop, 1, plies))
        self.assertEqual(trees(plies=plies, drum=1, shop=self.shop), trees(self.shop, 1, plies))
        self.assertEqual(apart(other=("strip", 1, 0, "back"), one=face, plies=plies, drum=1,
                               shop=self.shop), 1)


class Refused(unittest.TestCase):

    def setUp(self):
        self.bench = Bench([(3, 1), (2, 0)], [4, 2, 5, 1])
        self.shop = self.bench.shop
        self.plies = [(0, "head", "back")]
        self.face = ("strip", 0, 0, "back")

    def refused(self, error, field, thing, ask, *arguments):
        with self.assertRaises(error) as caught:
            ask(self.shop, *arguments)
        told = getattr(caught.exception, field)
        if error is NoFace:
            self.assertIs(told, thing)
        else:
            self.assertEqual(told, thing)

    def test_no_number_of_a_drum(self):
        for drum in [2, 3, -1, 10 ** 30, "0", Drum(3, 1)] + no_wholes():
            for plies, face in ((self.plies, self.face), (None, None), ([], self.face)):
                self.refused(BadDrum, "part", "number", touching, drum, plies)
                self.refused(BadDrum, "part", "number", trees, drum, plies)
                self.refused(BadDrum, "part", "number", apart, drum, plies, face, face)

    def test_no_plies(self):
        for plies, at in no_plies(self.bench):
            self.refused(BadPlies, "at", at, laid, plies)
            for drum in (0, 1):
                self.refused(BadPlies, "at", at, touching, drum, plies)
                self.refused(BadPlies, "at", at, trees, drum, plies)
                self.refused(BadPlies, "at", at, apart, drum, plies, self.face, self.face)
                self.refused(BadPlies, "at", at, apart, drum, plies, None, ())

    def test_no_face(self):
        for face in no_shop_faces(self.bench):
            self.refused(NoFace, "face", face, apart, 0, self.plies, face, self.face)
            self.refused(NoFace, "face", face, apart, 0, self.plies, self.face, face)
            # The one is refused ahead of the other.
            for other in (None, 7, ["strip", 0, 0, "back"]):
                self.refused(NoFace, "face", face, apart, 0, self.plies, face, other)

    def test_the_last_ones_are_none_to_refuse(self):
        plies = [(3, "head", "back"), (2, "tail", "front"), (0, "head", "back")]
        self.assertEqual(len(laid(self.shop, plies)), 5)
        self.assertIs(apart(self.shop, 1, plies, self.bench.faces[-1], ("drum", 1, 1, "out")), None)


if __name__ == "__main__":
    unittest.main()
