"""What the tests hold shops against: laying, walking and judging by the document's own words."""

import random
from itertools import product

from walks import Own, lies_on, no_wholes
from wetmarks.drums import Drum
from wetmarks.shops import Shop


class Bench:
    """A small shop, its plies laid face by face, its rows walked beat by beat."""

    def __init__(self, drums, strips):
        self.drums = list(drums)
        self.strips = list(strips)
        self.shop = Shop([Drum(*told) for told in drums], list(strips))
        faces = [("drum", n, c, "out") for n, (first, _) in enumerate(drums) for c in range(first)]
        faces += [("strip", n, c, side) for n, many in enumerate(strips) for c in range(many)
                  for side in ("front", "back")]
        self.faces = sorted(faces)
        self.known = {}

    def turns(self, drum, length):
        """For each place of a roll the tuple (turn, place, size), counted turn by turn."""
        first, step = self.drums[drum]
        told, turn, place = [], 0, 0
        for _ in range(length):
            if place == first + turn * step:
                turn, place = turn + 1, 0
            told.append((turn, place, first + turn * step))
            place += 1
        return told

    def stacks(self, plies):
        """For each place that some ply reaches the (inward, outward) faces, the innermost ahead."""
        told = [[] for _ in range(max(self.strips[ply[0]] for ply in plies))]
        for strip, end, side in plies:
            cells = list(range(self.strips[strip]))
            for place, cell in enumerate(cells if end == "head" else reversed(cells)):
                sides = (side, {"back": "front", "front": "back"}[side])
                told[place].append(tuple(("strip", strip, cell, each) for each in sides))
        return told

    def pairs(self, drum, plies):
        """All pairs that touch, by the three conditions of point 20, the lesser face ahead."""
        stacks = self.stacks(plies)
        turns = self.turns(drum, len(stacks))
        found = []
        for j, stack in enumerate(stacks):
            found += [(one[1], other[0]) for one, other in zip(stack, stack[1:])]
            turn, p, b = turns[j]
            if turn == 0:
                found.append((("drum", drum, p, "out"), stack[0][0]))
            found += [(stacks[i][-1][1], stack[0][0]) for i, (under, q, a) in enumerate(turns)
                      if under == turn - 1 and lies_on(p, b, q, a)]
        return sorted(tuple(sorted(pair)) for pair in found)

    def near(self, deed):
        """The faces that touch each face by a deed."""
        key = repr(deed[:-1])
        if key not in self.known:
            near = {}
            for one, other in self.pairs(deed[1], deed[2]) if deed[0] == "roll" else []:
                near.setdefault(one, []).append(other)
                near.setdefault(other, []).append(one)
            self.known[key] = near
        return self.known[key]

    def far(self, drum, plies, face):
        """By how many touches each face is apart from one, of those that hang with it."""
        near = self.near(("roll", drum, plies, 1))
        far, line = {face: 0}, [face]
        for one in line:
            for other in near.get(one, []):
                if other not in far:
                    far[other] = far[one] + 1
                    line.append(other)
        return far

    def beats(self, row):
        """For each beat of a row the faces that touch each face in it."""
        return [self.near(deed) for deed in row for _ in range(deed[-1])]

    def walk(self, row, spot):
        """The first moment of each face that has a spot at the row's last moment, by point 30."""
        face, put, wet = spot
        has = {face: put}
        for beat, near in enumerate(self.beats(row)):
            if put <= beat < put + wet:
                new = [other for one in has for other in near.get(one, [])]
                has.update({other: beat + 1 for other in new if other not in has})
        return has

    def shown(self, row, spot):
        return sorted(self.walk(row, spot).items())

    def web(self, row, wet):
        return [(face, sorted(self.walk(row, (face, 0, wet)))) for face in self.faces]

    def is_let(self, row, spot, lot):
        """Point 46: whether a spot shows no face that isn't in a lot."""
        return set(self.walk(row, spot)) <= set(lot)

    def is_clash(self, row, wet, lot, when, thing):
        """Point 49's own words, of a tuple of a face of the lot, faces with moments, and lists of such."""
        _, face, lasts, ways = thing
        beats, told = self.beats(row), dict(lasts)
        if face not in lot or len(told) < len(lasts) or told.get(face, -1) < len(beats):
            return False
        for beat in range(when, min(when + wet, len(beats))):
            for one, moment in lasts:
                if moment > beat and any(told.get(other, -1) < beat for other in beats[beat].get(one, [])):
                    return False
        for way in ways:
            if not way or way[0][1] != when or way[-1][0] in lot:
                return False
            if not self.is_way(row, (way[0][0], when, wet), way[-1][0], way):
                return False
        return all(moment < when or any(way[0][0] == one for way in ways) for one, moment in lasts)

    def is_way(self, row, spot, face, thing):
        """Point 32's own words, of a list of faces of the shop with whole numbers."""
        start, put, wet = spot
        beats = self.beats(row)
        if not thing or thing[0] != (start, put) or thing[-1][0] != face:
            return False
        for (ahead, before), (one, moment) in zip(thing, thing[1:]):
            if not (before < moment <= put + wet and moment <= len(beats)):
                return False
            if one not in beats[moment - 1].get(ahead, []):
                return False
        return True

    def shuts_off(self, row, spot, thing):
        """Point 33's own words, of a list of faces of the shop with whole numbers."""
        face, put, wet = spot
        told = dict(thing)
        if len(told) < len(thing) or face not in told or told[face] > put:
            return False
        for beat, near in enumerate(self.beats(row)):
            for one, moment in thing:
                if put <= beat < put + wet and moment <= beat:
                    if any(told.get(other, beat + 2) > beat + 1 for other in near.get(one, [])):
                        return False
        return True


def total(row):
    return sum(deed[-1] for deed in row)


def short_benches():
    """The smallest shops, all faces of which may be walked from at each wetness."""
    return [
        Bench([(3, 1)], [8, 3]),
        Bench([(1, 0)], [1]),
        Bench([(1, 0), (1, 1)], [4, 1, 2]),
        Bench([(2, 2), (3, 0)], [6, 5, 2]),
        Bench([(4, 2), (2, 10 ** 15 - 1)], [9, 4]),
    ]


def small_benches():
    """Small shops: each edge that the document names stands in one at least."""
    return [
        Bench([(3, 1)], [8, 3]),
        Bench([(1, 0)], [1]),
        Bench([(1, 0), (1, 1)], [4, 1, 2]),
        Bench([(4, 0), (6, 4)], [11, 16, 5]),
        Bench([(2, 3), (5, 10 ** 15 - 1)], [9, 6, 1, 2]),
        Bench([(6, 3), (2, 2), (3, 0)], [13, 12, 7]),
        Bench([(9, 6)], [20, 24, 9]),
        Bench([(7, 2)], [3, 7, 1, 2, 5, 8]),
    ]


def every_plies(bench, most):
    """Plies of each kind: all of one and two strips where these are few, else so many of them."""
    chance = random.Random(len(bench.faces))
    numbers = range(len(bench.strips))
    kinds = [(end, side) for end in ("head", "tail") for side in ("back", "front")]
    found = [[(n,) + kind] for n in numbers for kind in kinds]
    found += [[(n,) + kind, (m,) + other] for n, m in product(numbers, numbers) if n != m
              for kind, other in product(kinds, kinds)]
    if len(numbers) > 2:
        found += [[(n,) + chance.choice(kinds) for n in chance.sample(numbers, 3)] for _ in range(40)]
    if len(found) > most:
        found = found[:4] + chance.sample(found[4:], most - 4)
    return found


def some_rows(bench, many, most_beats=4):
    """Rows by a chance that is the same each time; many of them have ink carried on."""
    chance = random.Random(len(bench.faces) + many)
    plies = [most for most in every_plies(bench, 60)[4:] if len(most) > 1] or every_plies(bench, 4)
    plies = plies[:12] + every_plies(bench, 4)
    rows = [[], [("open", 3)], [("roll", 0, plies[0], 0)], [("open", 0), ("roll", 0, plies[-1], 2)]]
    while len(rows) < many:
        row = []
        for _ in range(chance.randint(2, 8)):
            deed = ("roll", chance.randrange(len(bench.drums)), chance.choice(plies))
            if chance.random() < 0.1:
                deed = ("open",)
            if row and chance.random() < 0.2:
                deed = row[-1][:-1]
            row.append(deed + (chance.choice((0, 1, 1, 2, 3, most_beats)),))
        rows.append(row)
    return rows


def some_spots(bench, row, many):
    """Spots by a chance that is the same each time, those at the row's ends among them."""
    chance = random.Random(len(bench.faces) + 7 * total(row) + many)
    last = total(row)
    spots = [(bench.faces[0], 0, last), (bench.faces[-1], last, 5), (bench.faces[-2], 0, 0)]
    while len(spots) < many:
        moment = chance.choice((0, 0, chance.randint(0, last)))
        touched = [face for near in bench.beats(row)[moment:] for face in near] or bench.faces
        spots.append((chance.choice(touched), moment, chance.choice((last, chance.randint(0, last + 2)))))
    return spots


def no_lists():
    """Things of many kinds, none of them a list."""
    return [thing for thing in no_wholes() if not isinstance(thing, list)] + [0, 1, -1]


def no_shop_faces(bench):
    """Things of many kinds, none of them a face of a shop."""
    drums, strips = len(bench.drums), len(bench.strips)
    amiss = [("drum", drums, 0, "out"), ("drum", -1, 0, "out"), ("drum", 0, bench.drums[0][0], "out"),
             ("drum", 0, -1, "out"), ("drum", 0, 0, "in"), ("drum", 0, 0, "back"), ("drum", 0, 0),
             ("strip", strips, 0, "back"), ("strip", -1, 0, "back"), ("strip", 0, -1, "back"),
             ("strip", 0, bench.strips[0], "front"), ("strip", 0, 10 ** 30, "front"),
             ("strip", 0, 0, "out"), ("strip", 0, 0, "head"), ("strip", 0, 0, ""), ("strip", 0, 0),
             ("strip", 0, 0, "back", 0), ["strip", 0, 0, "back"], {"strip": 0}, ("", 0, 0, "back"),
             ("back", 0, 0, "strip"), ("STRIP", 0, 0, "back"), (0, "strip", 0, "back"), "strip", 0, 1, -1]
    for thing in no_wholes():
        amiss += [("strip", thing, 0, "back"), ("drum", 0, thing, "out")]
        amiss += [(thing, 0, 0, "back"), ("strip", 0, 0, thing)]
    return amiss + no_wholes()


def no_plies(bench):
    """Tuples (thing, at) of what are no plies of a shop of three strips or more, and where."""
    good = [(1, "tail", "back"), (0, "head", "front"), (2, "head", "back")]
    amiss = [(len(bench.strips), "head", "back"), (-1, "head", "back"), (10 ** 30, "head", "back"),
             (0, "", "back"), (0, "HEAD", "back"), (0, "back", "head"), (0, "head", "out"),
             (0, "head", "in"), (0, "head"), (0, "head", "back", 1), ("head", 0, "back"),
             [0, "head", "back"], {0: "head"}, "head", 0]
    for thing in no_wholes():
        amiss += [thing, (thing, "head", "back"), (0, thing, "back"), (0, "head", thing)]
    told = [(thing, -1) for thing in no_lists() + [[], good + [(3, "head", "back")], tuple(good)]]
    told += [({0: good[0]}, -1), (good + good, -1)]
    for thing in amiss:
        told += [([thing], 0), ([good[0], thing], 1), ([good[0], good[2], thing], 2)]
        told += [([thing, thing], 0), ([good[0], good[0], thing], 1), ([good[0], thing, good[0]], 1)]
    told += [([good[0], good[0]], 1), ([good[0], (1, "head", "front")], 1)]
    return told + [([good[1], good[0], good[1]], 2), ([good[1], good[1], good[1]], 1)]


def no_deeds(bench):
    """Things of many kinds, none of them a deed of a shop of three strips or more."""
    plies = [(0, "head", "back")]
    amiss = [("roll", 0, plies), ("roll", 0, plies, 1, 1), ("roll", plies, 0, 1), ("open", 0, plies, 1),
             ("open",), ("open", 1, 1), ("roll", 1), ("open", -1), ("roll", 0, plies, -1),
             ("roll", -1, plies, 1), ("roll", len(bench.drums), plies, 1), ["open", 1], {"open": 1},
             ["roll", 0, plies, 1], ("shut", 1), ("shut", 0, plies, 1), (1, "open"), 0, -1]
    amiss += [("roll", 0, thing, 1) for thing, _ in no_plies(bench)]
    for thing in no_wholes():
        amiss += [thing, ("open", thing), ("roll", 0, plies, thing), ("roll", thing, plies, 1)]
        amiss += [(thing, 1), (thing, 0, plies, 1)]
    return amiss


def no_rows(bench):
    """Tuples (thing, at) of what is no row of a shop of three strips or more, and where."""
    good = [("open", 1), ("roll", 0, [(0, "head", "back")], 2)]
    told = [(thing, -1) for thing in no_lists() + [tuple(good), good[0], good * 20 + [("open", 0)]]]
    for deed in no_deeds(bench):
        told += [([deed], 0), (good + [deed], 2), ([good[0], deed, deed], 1)]
    return told + [(good * 19 + [good[0], ("open", True)], 39)]


def no_lots(bench):
    """Tuples (thing, at) of what is no lot of a shop, and where."""
    good = [bench.faces[-1], bench.faces[0]]
    told = [(thing, -1) for thing in no_lists() + [tuple(good), good[0], {face: 0 for face in good}]]
    for face in no_shop_faces(bench):
        told += [([face], 0), (good + [face], 2), ([good[1], face, face], 1), ([good[0], face, good[0]], 1)]
    return told + [(good + good, 2), ([good[0], good[0], None], 1)]


def no_menus(bench):
    """Tuples (thing, at) of what is no menu of a shop of three strips or more, and where."""
    good = ("roll", 0, [(0, "head", "back")], 2)
    told = [(thing, -1) for thing in no_lists() + [[], (good,), good, [good] * 7, {0: good}]]
    amiss = no_deeds(bench) + [("open", 1), ("open", 1000), good[:3] + (0,), good[:3] + (1001,),
                               good[:3] + (10 ** 30,)]
    for deed in amiss:
        told += [([deed], 0), ([good, good, deed], 2), ([good, deed, deed], 1)]
    return told + [([good] * 5 + [("open", 1)], 5)]


def no_spots(bench, last):
    """Tuples (thing, part) of what is no spot in a row with this last moment, and which part."""
    face = bench.faces[-1]
    told = [(thing, "spot") for thing in no_wholes() + [0, -1, (), (face, 0), (face, 0, 1, 1), face,
                                                        [face, 0, 1], {face: 0}]]
    for thing in no_shop_faces(bench):
        told += [((thing, 0, 1), "face"), ((thing, -1, -1), "face"), ((thing, None, Own()), "face")]
    for thing in [-1, last + 1, last + 2, 10 ** 30, -10 ** 30] + no_wholes():
        told += [((face, thing, 1), "moment"), ((face, thing, -1), "moment"), ((face, thing, thing), "moment")]
    for thing in [-1, -10 ** 30] + no_wholes():
        told += [((face, 0, thing), "wet"), ((face, last, thing), "wet")]
    return told
