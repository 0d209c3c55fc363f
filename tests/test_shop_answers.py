"""Points 2 and 4 of all that takes a shop: names, and what is told again and again."""

import copy
import inspect
import unittest

from benches import Bench
from wetmarks import back, orders, rollings, rows, shops, webs, wishes
from wetmarks.drums import Drum
from wetmarks.shops import Shop

FUNCTIONS = {
    rollings: {"laid": "shop plies", "touching": "shop drum plies", "trees": "shop drum plies",
               "apart": "shop drum plies one other"},
    rows: {"plain": "shop row", "shows": "shop row spot", "marks": "shop row spots",
           "bare": "shop row spots", "way": "shop row spot face",
           "is_way": "shop row spot face thing", "shuts_off": "shop row spot thing"},
    webs: {"web": "shop row wet", "times": "shop row face", "grows": "shop row",
           "parted": "shop one other", "ever": "shop row face", "stands": "shop row"},
    orders: {"matters": "shop one other", "parts": "shop one other wet", "may_change": "shop row wet",
             "outcomes": "shop row wet"},
    back: {"how_wet": "shop row lot when", "let": "shop row wet lot", "led_back": "shop row wet lot when",
           "is_clash": "shop row wet lot thing when"},
    wishes: {"fewest": "shop menu face wet must bare", "is_none": "shop menu face wet must bare thing",
             "shown_by": "shop menu face wet lot most"},
}


def names(function):
    return " ".join(inspect.signature(function).parameters)


class Interface(unittest.TestCase):

    def test_functions_stand_in_their_files(self):
        for module, functions in FUNCTIONS.items():
            for name, told in functions.items():
                function = getattr(module, name)
                self.assertEqual(function.__module__, module.__name__)
                self.assertEqual(names(function), told, name)

    def test_a_moment_is_handed_in_by_its_name_alone(self):
        for function in (back.how_wet, back.led_back, back.is_clash):
            when = inspect.signature(function).parameters["when"]
            self.assertEqual((when.kind, when.default), (when.KEYWORD_ONLY, 0))

    def test_the_class_has_its_methods(self):
        self.assertEqual(Shop.__module__, shops.__name__)
        self.assertEqual(names(Shop), "drums strips")
        for name in ("drums", "strips", "faces"):
            self.assertEqual(names(vars(Shop)[name]), "self")
        self.assertIn("__eq__", vars(Shop))


def questions():
    """All questions of one shop: each as a function of it, and the lists that it is handed."""
    face, other = ("strip", 0, 0, "front"), ("strip", 0, 3, "back")
    plies = [(1, "tail", "front"), (0, "head", "back")]
    row = [("roll", 0, list(plies), 2), ("open", 1), ("roll", 1, [(0, "tail", "back")], 10 ** 29)]
    spots = [(face, 0, 10 ** 30 - 1), (other, 2, 5), (face, 1, 1)]
    shop = Shop([Drum(2, 1), Drum(3, 0)], [4, 2])
    steps = rows.way(shop, row, spots[0], other)
    walls = rows.shows(shop, row, spots[0])
    lot = [one for one, _ in walls]
    menu = [("roll", 0, list(plies), 2), ("roll", 1, [(0, "tail", "back")], 1)]
    clash = back.led_back(shop, row, 10 ** 30 - 1, lot[1:])
    wish = [menu, face, 3, [other], [("strip", 1, 0, "back")]]
    never = [menu, face, 3, [("drum", 1, 1, "out")], [other]]
    return [
        (rollings.laid, [plies]), (rollings.touching, [0, plies]), (rollings.trees, [0, plies]),
        (rollings.apart, [0, plies, face, other]), (rows.plain, [row]), (rows.shows, [row, spots[0]]),
        (rows.marks, [row, spots]), (rows.bare, [row, spots]), (rows.way, [row, spots[0], other]),
        (rows.is_way, [row, spots[0], other, steps]), (rows.shuts_off, [row, spots[0], walls]),
        (webs.web, [row, 3]), (webs.times, [row, face]), (webs.grows, [row]),
        (webs.parted, [row, row[1:]]), (webs.ever, [row, face]), (webs.stands, [row]),
        (orders.matters, [row[0], row[2]]), (orders.parts, [row[0], row[2], 2]),
        (orders.may_change, [row + row[2:], 10]), (orders.outcomes, [row, 9]),
        (back.how_wet, [row, lot]), (back.let, [row, 3, lot]), (back.led_back, [row, 5, lot]),
        (back.led_back, [row, 10 ** 30 - 1, lot[1:]]), (back.is_clash, [row, 10 ** 30 - 1, lot[1:], clash]),
        (wishes.fewest, wish), (wishes.fewest, never), (wishes.is_none, never + [wishes.fewest(shop, *never)[1]]),
        (wishes.shown_by, [menu, face, 0, [face], 3]), (wishes.shown_by, [menu, face, 3, [face, other], 3])]


def spoil(told):
    """Change what was told in each way that it can be, lists within lists and tuples too."""
    if isinstance(told, (list, tuple)):
        for thing in told:
            spoil(thing)
    if isinstance(told, list):
        told.reverse()
        told.append("more")


def lists_in(told):
    """All lists within what was told, itself too where it is one."""
    found = [told] if isinstance(told, list) else []
    if isinstance(told, (list, tuple)):
        for thing in told:
            found += lists_in(thing)
    return found


class Answers(unittest.TestCase):

    def setUp(self):
        self.shop = Shop([Drum(2, 1), Drum(3, 0)], [4, 2])

    def test_there_is_a_question_of_each_function(self):
        self.assertEqual({ask for ask, _ in questions()},
                         {getattr(module, name) for module in FUNCTIONS for name in FUNCTIONS[module]})

    def test_no_answer_is_empty(self):
        for ask, handed in questions():
            self.assertTrue(ask(self.shop, *handed), ask.__name__)

    def test_the_same_question_has_the_same_answer(self):
        like = Shop([Drum(2, 1), Drum(3, 0)], [4, 2])
        for ask, handed in questions():
            told = ask(self.shop, *handed)
            for shop in (self.shop, like):
                again = ask(shop, *copy.deepcopy(handed))
                self.assertEqual(again, told)
                self.assertEqual(repr(again), repr(told))

    def test_what_is_told_is_new(self):
        for ask, handed in questions():
            told = ask(self.shop, *handed)
            kept = copy.deepcopy(told)
            spoil(told)
            self.assertEqual(ask(self.shop, *handed), kept, ask.__name__)

    def test_no_list_stands_twice_in_what_is_told(self):
        for ask, handed in questions():
            found = lists_in(ask(self.shop, *handed))
            self.assertEqual(len({id(each) for each in found}), len(found), ask.__name__)

    def test_what_was_told_ahead_is_not_changed(self):
        told = [ask(self.shop, *handed) for ask, handed in questions()]
        kept = copy.deepcopy(told)
        for ask, handed in questions():
            ask(self.shop, *handed)
        self.assertEqual(told, kept)

    def test_what_is_handed_in_stays_as_it_was(self):
        for ask, handed in questions():
            kept = copy.deepcopy(handed)
            told = ask(self.shop, *handed)
            self.assertEqual(handed, kept, ask.__name__)
            spoil(told)
            self.assertEqual(handed, kept, ask.__name__)
            self.assertEqual(self.shop, Shop([Drum(2, 1), Drum(3, 0)], [4, 2]))

    def test_plies_that_are_told_are_not_those_handed_in(self):
        plies = [(0, "head", "back")]
        row = [("roll", 0, plies, 1)]
        told = rows.plain(self.shop, row)
        plies.append((1, "head", "back"))
        self.assertEqual(told, [("roll", 0, [(0, "head", "back")], 1)])

    def test_a_list_that_was_changed_is_another_one(self):
        bench = Bench([(2, 1), (3, 0)], [4, 2])
        plies = [(0, "head", "back")]
        row = [("roll", 0, plies, 4)]
        spots = [(("drum", 0, 0, "out"), 0, 9)]
        for change in (lambda: None, lambda: plies.insert(0, (1, "tail", "back")),
                       lambda: row.append(("roll", 1, [(0, "tail", "front")], 2)), lambda: plies.pop(),
                       lambda: spots.append((("strip", 1, 0, "back"), 2, 3)), lambda: row.pop(0)):
            change()
            self.assertEqual(rollings.laid(bench.shop, plies), bench.stacks(plies))
            self.assertEqual(rollings.touching(bench.shop, 0, plies), bench.pairs(0, plies))
            self.assertEqual(webs.web(bench.shop, row, 5), bench.web(row, 5))
            for spot in spots:
                self.assertEqual(rows.shows(bench.shop, row, spot), bench.shown(row, spot))
            shown = {face for spot in spots for face in bench.walk(row, spot)}
            told = [face for face, _ in rows.marks(bench.shop, row, spots)]
            self.assertEqual(told, sorted(shown))

    def test_a_way_and_walls_that_were_changed_are_others(self):
        shop, face = self.shop, ("strip", 0, 2, "back")
        row, spot = [("roll", 0, [(0, "head", "back")], 9)], (("strip", 0, 0, "front"), 0, 9)
        steps, walls = rows.way(shop, row, spot, face), rows.shows(shop, row, spot)
        self.assertTrue(rows.is_way(shop, row, spot, face, steps) and rows.shuts_off(shop, row, spot, walls))
        steps.append((face, 10))
        del walls[0]
        self.assertFalse(rows.is_way(shop, row, spot, face, steps))
        self.assertFalse(rows.shuts_off(shop, row, spot, walls))

    def test_lots_wishes_and_stands_that_were_changed_are_others(self):
        bench = Bench([(2, 1), (3, 0)], [4, 2])
        shop, face = bench.shop, ("strip", 0, 0, "front")
        plies, lot, stands = [(0, "head", "back")], [face], []
        row, menu = [("roll", 0, plies, 4)], [("roll", 0, plies, 2)]
        must, bare = [("strip", 0, 3, "back")], []
        for change in (lambda: None, lambda: lot.append(("strip", 0, 2, "back")), lambda: plies.pop(0),
                       lambda: must.append(("strip", 1, 1, "back")), lambda: bare.append(lot.pop()),
                       lambda: stands.append(([face], 3)), lambda: row.append(("open", 1))):
            change()
            if not plies:
                plies.append((1, "tail", "front"))
            again = copy.deepcopy((row, lot, menu, must, bare, stands))
            self.assertEqual(self.answers(shop, face, row, lot, menu, must, bare, stands),
                             self.answers(shop, face, *again))
            self.assertEqual((row, lot, menu, must, bare, stands), again)
        self.assertEqual(back.let(shop, row, 9, lot)[-1], (face, 0, 5))

    def answers(self, shop, face, row, lot, menu, must, bare, stands):
        clash = back.led_back(shop, row, 3, lot)
        return [back.how_wet(shop, row, lot), back.let(shop, row, 2, lot), clash,
                back.is_clash(shop, row, 3, lot, clash), wishes.fewest(shop, menu, face, 3, must, bare),
                wishes.is_none(shop, menu, face, 3, must, bare, stands),
                wishes.shown_by(shop, menu, face, 3, lot, 2), orders.may_change(shop, row * 2, 9),
                orders.outcomes(shop, row, 9), orders.matters(shop, row[0], menu[0])]

    def test_kinds_of_what_is_told(self):
        kinds = {rollings.apart: int, webs.stands: int, webs.parted: tuple, rows.is_way: bool,
                 rows.shuts_off: bool, orders.parts: tuple, back.led_back: tuple, back.is_clash: bool,
                 wishes.fewest: tuple, wishes.is_none: bool, wishes.shown_by: tuple}
        for ask, handed in questions():
            told = ask(self.shop, *handed)
            self.assertIs(type(told), kinds.get(ask, list), ask.__name__)
        for ask, handed in questions():
            told = ask(self.shop, *handed)
            if isinstance(told, list) and ask not in (rollings.laid, webs.grows, orders.may_change):
                self.assertEqual({type(thing) for thing in told}, {tuple}, ask.__name__)
        self.assertEqual({type(thing) for thing in rollings.laid(self.shop, [(0, "head", "back")])}, {list})
        faces, width = rollings.trees(self.shop, 0, [(0, "head", "back")])[0]
        self.assertEqual((type(faces), type(width)), (list, int))


if __name__ == "__main__":
    unittest.main()
