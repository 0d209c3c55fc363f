"""Point 17: shops, their drums, strips and faces."""

import unittest

from benches import small_benches
from walks import Own, no_wholes
from wetmarks.drums import Drum
from wetmarks.errors import BadShop
from wetmarks.shops import Shop

DRUM = Drum(3, 1)


class Shops(unittest.TestCase):

    def test_drums_strips_and_faces(self):
        shop = Shop([Drum(2, 1), Drum(1, 0)], [2, 1])
        self.assertEqual(shop.drums(), [Drum(2, 1), Drum(1, 0)])
        self.assertEqual(shop.strips(), [2, 1])
        self.assertEqual(shop.faces(), [
            ("drum", 0, 0, "out"), ("drum", 0, 1, "out"), ("drum", 1, 0, "out"),
            ("strip", 0, 0, "back"), ("strip", 0, 0, "front"),
            ("strip", 0, 1, "back"), ("strip", 0, 1, "front"),
            ("strip", 1, 0, "back"), ("strip", 1, 0, "front")])

    def test_faces_are_sorted_and_unlike(self):
        for bench in small_benches():
            faces = bench.shop.faces()
            self.assertEqual(faces, bench.faces)
            self.assertEqual(faces, sorted(set(faces)))
            many = sum(first for first, _ in bench.drums) + 2 * sum(bench.strips)
            self.assertEqual(len(faces), many)

    def test_the_greatest_and_the_least(self):
        shop = Shop([Drum(40, 10 ** 15 - 1), Drum(40, 0), Drum(40, 40)], [40] * 6)
        self.assertEqual(len(shop.faces()), 600)
        self.assertEqual(shop.faces()[-1], ("strip", 5, 39, "front"))
        self.assertEqual(shop.faces()[119], ("drum", 2, 39, "out"))
        self.assertEqual(Shop([Drum(1, 0)], [1]).faces(), [
            ("drum", 0, 0, "out"), ("strip", 0, 0, "back"), ("strip", 0, 0, "front")])

    def test_what_is_handed_in_is_copied(self):
        drums, strips = [Drum(2, 0), DRUM], [4, 2]
        shop = Shop(drums, strips)
        drums.append(Drum(5, 5))
        drums[0] = Drum(7, 7)
        strips[1] = 9
        strips.append(1)
        self.assertEqual(shop.drums(), [Drum(2, 0), DRUM])
        self.assertEqual(shop.strips(), [4, 2])
        self.assertEqual(shop, Shop([Drum(2, 0), DRUM], [4, 2]))
        self.assertNotEqual(shop, Shop(drums, strips))

    def test_what_is_handed_in_stays_as_it_was(self):
        drums, strips = [Drum(2, 0), DRUM], [4, 2]
        Shop(drums, strips).faces()
        self.assertEqual((drums, strips), ([Drum(2, 0), DRUM], [4, 2]))

    def test_what_is_told_is_the_askers_own(self):
        shop = Shop([DRUM], [4, 2])
        for ask in (shop.drums, shop.strips, shop.faces):
            told = ask()
            kept = list(told)
            told.reverse()
            told.append(None)
            del told[0]
            self.assertEqual(ask(), kept)
            self.assertIs(type(ask()), list)
        self.assertEqual(shop, Shop([DRUM], [4, 2]))

    def test_by_name(self):
        self.assertEqual(Shop(strips=[4], drums=[DRUM]), Shop([DRUM], [4]))


class Equal(unittest.TestCase):

    def test_equal_shops(self):
        one, other = Shop([Drum(3, 1), Drum(2, 0)], [4, 5]), Shop([Drum(3, 1), Drum(2, 0)], [4, 5])
        self.assertTrue(one == other and one == one)
        self.assertFalse(one != other)

    def test_unlike_shops(self):
        shop = Shop([Drum(3, 1), Drum(2, 0)], [4, 5])
        for other in (Shop([Drum(2, 0), Drum(3, 1)], [4, 5]), Shop([Drum(3, 1)], [4, 5]),
                      Shop([Drum(3, 1), Drum(2, 1)], [4, 5]), Shop([Drum(3, 1), Drum(2, 0)], [5, 4]),
                      Shop([Drum(3, 1), Drum(2, 0)], [4]), Shop([Drum(3, 1), Drum(2, 0)], [4, 5, 1])):
            self.assertFalse(shop == other)
            self.assertTrue(shop != other)

    def test_nothing_else_is_equal(self):
        shop = Shop([DRUM], [4])
        for thing in no_wholes() + [DRUM, [DRUM], ([DRUM], [4]), 4, [[DRUM], [4]]]:
            if not isinstance(thing, Own):
                self.assertFalse(thing == shop, repr(thing))
            self.assertFalse(shop == thing, repr(thing))


class Refused(unittest.TestCase):

    def refused(self, part, at, drums, strips):
        with self.assertRaises(BadShop) as caught:
            Shop(drums, strips)
        self.assertEqual((caught.exception.part, caught.exception.at), (part, at))

    def test_no_drums(self):
        for strips in ([4], [], None, [0]):
            for thing in [thing for thing in no_wholes() if not isinstance(thing, list)]:
                self.refused("drums", -1, thing, strips)
            for thing in ([], [DRUM] * 4, (DRUM,), DRUM, {0: DRUM}, 0, 1):
                self.refused("drums", -1, thing, strips)

    def test_what_may_not_stand_among_drums(self):
        for strips in ([4], [], None, [0]):
            for thing in no_wholes() + [0, 3, (3, 1), [DRUM], Drum, Drum(41, 0), Drum(10 ** 15 - 1, 1)]:
                self.refused("drums", 0, [thing], strips)
                self.refused("drums", 0, [thing, DRUM, thing], strips)
                self.refused("drums", 1, [DRUM, thing, None], strips)
                self.refused("drums", 2, [DRUM, DRUM, thing], strips)

    def test_no_strips(self):
        for thing in [thing for thing in no_wholes() if not isinstance(thing, list)]:
            self.refused("strips", -1, [DRUM], thing)
        for thing in ([], [1] * 7, (4,), 4, {0: 4}, range(1, 3)):
            self.refused("strips", -1, [DRUM], thing)

    def test_what_may_not_stand_among_strips(self):
        for thing in no_wholes() + [0, -1, 41, 10 ** 30, DRUM]:
            self.refused("strips", 0, [DRUM], [thing])
            self.refused("strips", 0, [DRUM], [thing, 4, thing])
            self.refused("strips", 3, [DRUM], [1, 40, 2, thing, None])
            self.refused("strips", 5, [DRUM], [1, 40, 2, 3, 4, thing])


if __name__ == "__main__":
    unittest.main()
