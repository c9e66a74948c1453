"""Tests of sumorder.keeper: wholes and rests while parts change and names are settled, and letters reckoned."""

import unittest
from random import Random

import by_hand
from by_hand import WORDS, drawn_sheet
from keeping import Model, drawn_change
from sumorder.bags import bag_tree, is_bag_tree
from sumorder.errors import NoBack, NoBag, NoFilling, NoName, NoPart, NoTree, NoWorths
from sumorder.keeper import Keeper
from sumorder.letters import bag_rest
from sumorder.sheets import is_part
from things import Case, any_things, no_name
from trees import drawn, drawn_tree, one_bag, star_of_twelve

ROW = ((2, 3, 2), (((0, 1), (1, 2, 3, 4, 5, -6)), ((1, 2), (1, 0, 2, 1, 0, 3)), ((), (7,)), ((1,), (1, -1, 2))))
CHAIN = (((0, 1), (1, 2), (1,)), ((0, 1), (1, 2)))
BITS = ((2, 3), (((0, 1), (1, 0, 1, 0, 1, 1)), ((1,), (1, 1, 0))))
BITS_TREE = (((0, 1), (1,)), ((0, 1),))
GREAT = 10 ** 12


class KeeperCase(Case):
    def says(self, expected, keeper, method, *handed):
        """The keeper's method tells this, of things that stay as they were."""
        before = repr(handed)
        told = getattr(keeper, method)(*handed)
        self.assertEqual(repr(told), repr(expected), (method, handed))
        self.assertEqual(repr(handed), before)

    def alike(self, keeper, model, method, *handed):
        """The keeper tells what the model does, and has reckoned as many letters."""
        self.says(getattr(model, method)(*handed), keeper, method, *handed)
        self.says(model.reckoned(), keeper, "reckoned")

    def all_alike(self, keeper, model):
        """All that the keeper tells is what the model does."""
        self.alike(keeper, model, "whole")
        for at in range(len(model.tree[0])):
            self.alike(keeper, model, "rest", at)

    def both(self, word, sheet, tree):
        """A new keeper and its model."""
        return Keeper(word, sheet, tree), Model(word, sheet, tree)


class Made(KeeperCase):
    def test_a_new_one_tells_the_whole_and_the_rests(self):
        for word in WORDS:
            for sheet, tree in drawn(Random(1), word, 30):
                keeper, model = self.both(word, sheet, tree)
                self.says(0, keeper, "reckoned")
                self.all_alike(keeper, model)
                self.says(by_hand.whole(word, sheet), keeper, "whole")
                for at in range(len(tree[0])):
                    self.says(bag_rest(word, sheet, tree, at), keeper, "rest", at)

    def test_written_ones(self):
        keeper = Keeper("sum", ROW, CHAIN)
        self.says(35 * 1 - 49 * 3 - 42 * 3, keeper, "whole")
        self.says(((0, 1), (7, -42, 126, 28, -105, -252)), keeper, "rest", 0)
        self.says(None, keeper, "settle", 1, 0)
        self.says(35, keeper, "whole")
        self.says(((0,), (7, 28)), keeper, "rest", 0)
        self.says(((2,), (35, 0)), keeper, "rest", 1)
        self.says(((), (35,)), keeper, "rest", 2)
        self.says(None, keeper, "put", 2, (-1,))
        self.says(-5, keeper, "whole")
        self.says(None, keeper, "free", 1)
        self.says(None, keeper, "back")
        self.says(None, keeper, "back")
        self.says(35, keeper, "whole")
        self.says(None, keeper, "back")
        self.says(-238, keeper, "whole")

    def test_no_tree(self):
        bags, ties = CHAIN
        for tree in any_things() + [
            None, [bags, ties], (bags,), (bags, ties, ()), (bags, ((0, 1),)), (bags[:2], ties), (list(bags), ties),
            (bags, list(ties)), (((0, 1), (1, 2), (0,)), ties), (((0, 1), (2,), (1,)), ties), (((0, 1), (1, 2), ()), ()),
            (((0, 1),), ()), (((0, 1), (2,)), ((0, 1),)), (bags, ((0, 1), (2, 1))), (bags, ((False, True), (1, 2))),
            (((0, 1), (1, 2), (True,)), ties), (((0, 1), (2, 1), (1,)), ties), (bags, ((0, 1), (0, 1))),
            ((bags[0],) * 12 + (bags[1],), tuple((at, at + 1) for at in range(12))), (ties, bags),
        ]:
            self.assertIs(is_bag_tree(ROW, tree), False)
            for word in WORDS[:4]:
                self.refused(NoTree, Keeper, word, ROW, tree)

    def test_changed_trees_are_refused_just_where_they_are_not_right(self):
        draw = Random(2)
        answers = []
        for sheet, (bags, ties) in drawn(draw, "sum", 40):
            at = draw.randrange(len(bags))
            fewer = tuple(name for name in bags[at] if draw.randint(0, 3))
            for tree in ((bags[:at] + (fewer,) + bags[at + 1:], ties), (bags, ties[1:]), (bags + ((),), ties)):
                answers.append(is_bag_tree(sheet, tree))
                if answers[-1]:
                    Keeper("sum", sheet, tree)
                else:
                    self.refused(NoTree, Keeper, "sum", sheet, tree)
        self.assertEqual(set(answers), {True, False})

    def test_one_bag_reckons_no_letters(self):
        for word in WORDS:
            for sheet, tree in drawn(Random(3), word, 5):
                keeper, model = self.both(word, sheet, one_bag(sheet))
                self.all_alike(keeper, model)
                self.says(None, keeper, "settle", 0, 0)
                model.settle(0, 0)
                self.all_alike(keeper, model)
                self.says(0, keeper, "reckoned")

    def test_worths_greater_than_told(self):
        part = bag_rest("sum", ((2,), (((0,), (GREAT, -GREAT)),) * 3), (((0,),), ()), 0)
        sheet = ((2, 2), (part, ((0, 1), (1, 2, 3, 4))))
        self.assertFalse(is_part(sheet[0], part))
        keeper, model = self.both("sum", sheet, (((0,), (0, 1)), ((0, 1),)))
        self.all_alike(keeper, model)
        # By put only what fits by point 4 is taken.
        self.refused(NoWorths, keeper.put, 0, part[1])
        self.alike(keeper, model, "put", 0, (1, 2))
        self.alike(keeper, model, "back")
        self.all_alike(keeper, model)


class Histories(KeeperCase):
    def history(self, draw, word, sheet, tree, changes):
        """Drawn changes and questions, each held against the model; then all is undone."""
        keeper, model = self.both(word, sheet, tree)
        for _ in range(changes):
            method, *handed = drawn_change(draw, model)
            self.alike(keeper, model, method, *handed)
            for _ in range(draw.randint(0, 2)):
                self.alike(keeper, model, *draw.choice([("whole",), ("rest", draw.randrange(len(tree[0])))]))
        self.all_alike(keeper, model)
        while model.past:
            self.alike(keeper, model, "back")
            if draw.randint(0, 1):
                self.alike(keeper, model, "whole")
        self.refused(NoBack, keeper.back)
        self.assertEqual((model.sheet, model.fixed), (sheet, {}))
        self.all_alike(keeper, model)

    def test_drawn_histories(self):
        draw = Random(4)
        for word in WORDS:
            for sheet, tree in drawn(draw, word, 25):
                self.history(draw, word, sheet, tree, 12)

    def test_long_histories(self):
        draw = Random(5)
        for word in WORDS:
            for sheet, tree in drawn(draw, word, 3, 3):
                self.history(draw, word, sheet, tree, 80)

    def test_stars_of_twelve_bags(self):
        draw = Random(6)
        for word in WORDS:
            for sheet, tree in drawn(draw, word, 3, 3):
                self.history(draw, word, sheet, star_of_twelve(draw, sheet), 15)

    def test_all_names_settled_at_each_filling(self):
        for word in WORDS:
            for sheet, tree in drawn(Random(7), word, 8, 4):
                keeper, model = self.both(word, sheet, tree)
                for filling in by_hand.fillings(sheet):
                    for name, worth in enumerate(filling):
                        self.alike(keeper, model, "settle", name, worth)
                    told = by_hand.worth(word, sheet, filling)
                    self.alike(keeper, model, "whole")
                    self.says(told, keeper, "whole")
                    self.says(((), (told,)), keeper, "rest", len(tree[0]) - 1)
                    model.need(len(tree[0]) - 1)

    def test_it_tells_what_a_fresh_one_does(self):
        draw = Random(8)
        for word in WORDS:
            for sheet, tree in drawn(draw, word, 10):
                keeper, model = self.both(word, sheet, tree)
                for _ in range(10):
                    method, *handed = drawn_change(draw, model)
                    self.alike(keeper, model, method, *handed)
                    self.alike(keeper, model, "rest", draw.randrange(len(tree[0])))
                    fresh = Keeper(word, model.sheet, tree)
                    for name, worth in model.fixed.items():
                        fresh.settle(name, worth)
                    self.assertEqual(keeper.whole(), fresh.whole())
                    model.need(0)

    def test_some_thousand_fillings(self):
        draw = Random(9)
        sheet = drawn_sheet(draw, "sum", (4, 4, 4, 4, 4, 3), 12, 3, GREAT)
        tree = drawn_tree(draw, sheet)
        keeper, model = self.both("sum", sheet, tree)
        self.alike(keeper, model, "whole")
        self.alike(keeper, model, "settle", 2, 3)
        self.alike(keeper, model, "whole")

    def test_two_keepers_do_not_touch_one_another(self):
        draw = Random(10)
        for word in WORDS:
            for sheet, tree in drawn(draw, word, 5):
                pairs = [self.both(word, sheet, tree) for _ in range(2)]
                for _ in range(20):
                    keeper, model = draw.choice(pairs)
                    method, *handed = drawn_change(draw, model)
                    self.alike(keeper, model, method, *handed)
                    for keeper, model in pairs:
                        self.alike(keeper, model, "whole")
                        self.alike(keeper, model, "rest", len(tree[0]) - 1)


class Reckoned(KeeperCase):
    LINE = (((0,), (0, 1), (1, 2), (2, 3), (3,)), ((0, 1), (1, 2), (2, 3), (3, 4)))
    SHEET = ((2, 2, 2, 2), (((0, 1), (1, 2, 3, 4)), ((1, 2), (1, 0, 1, 2)), ((2, 3), (2, 1, 1, 1)), ((), (3,))))

    def counts(self, keeper, *rows):
        """Behind each asking or change so many letters are reckoned in all."""
        for many, method, *handed in rows:
            getattr(keeper, method)(*handed)
            for _ in range(2):
                self.says(many, keeper, "reckoned")

    def test_for_the_whole_those_towards_bag_0(self):
        self.counts(Keeper("sum", self.SHEET, self.LINE), (4, "whole"), (4, "whole"), (4, "rest", 0), (5, "rest", 1))

    def test_for_a_rest_those_towards_the_bag(self):
        self.counts(Keeper("sum", self.SHEET, self.LINE), (4, "rest", 2), (4, "rest", 2), (6, "whole"), (8, "rest", 4),
                    (8, "rest", 3), (8, "rest", 1), (8, "rest", 2), (8, "whole"))

    def test_behind_a_part_s_worths(self):
        keeper = Keeper("sum", self.SHEET, self.LINE)
        self.counts(keeper, (4, "rest", 4), (8, "rest", 0), (8, "put", 1, (1, 0, 1, 2)))
        # Bag 2 is touched: towards it nothing is forgotten, from it to each end two letters are.
        self.counts(keeper, (8, "rest", 2), (9, "rest", 1), (10, "rest", 0), (11, "rest", 3), (12, "rest", 4))

    def test_a_part_without_names_is_laid_in_bag_0(self):
        keeper = Keeper("sum", self.SHEET, self.LINE)
        self.counts(keeper, (4, "whole"), (4, "put", 3, (5,)), (4, "whole"), (8, "rest", 4), (8, "put", 3, (5,)),
                    (8, "whole"), (12, "rest", 4))

    def test_behind_a_name_settled_and_freed(self):
        keeper = Keeper("sum", self.SHEET, self.LINE)
        # Name 0 is in the bags 0 and 1, so the letter between them that comes from 1 goes, too.
        self.counts(keeper, (4, "rest", 4), (8, "rest", 0), (8, "settle", 0, 1), (9, "whole"), (13, "rest", 4),
                    (13, "settle", 0, 1), (14, "whole"), (14, "free", 0), (15, "whole"), (19, "rest", 4),
                    (19, "settle", 3, 0), (23, "whole"), (24, "rest", 4))

    def test_behind_a_change_undone(self):
        keeper = Keeper("sum", self.SHEET, self.LINE)
        self.counts(keeper, (4, "rest", 4), (8, "rest", 0), (8, "put", 2, (1, 1, 1, 1)), (11, "whole"), (11, "back"),
                    (14, "whole"), (14, "settle", 1, 0), (14, "settle", 1, 0), (14, "back"), (14, "back"))
        self.counts(keeper, (16, "whole"))

    def test_changes_alone_reckon_none(self):
        keeper = Keeper("sum", self.SHEET, self.LINE)
        self.counts(keeper, (0, "put", 0, (1, 1, 1, 1)), (0, "settle", 1, 1), (0, "settle", 1, 0), (0, "free", 1),
                    (0, "back"), (0, "back"), (0, "reckoned"), (4, "whole"))

    def test_by_each_word_alike(self):
        for word in WORDS[1:4]:
            self.counts(Keeper(word, self.SHEET, self.LINE), (4, "whole"), (4, "settle", 2, 0), (7, "whole"))


class Refusals(KeeperCase):
    def unchanged(self, keeper, model, error, method, *handed):
        """The refusal changes nothing: neither what is told nor what is reckoned nor what is undone."""
        self.refused(error, getattr(keeper, method), *handed)
        self.says(model.reckoned(), keeper, "reckoned")

    def begun(self, word="sum", sheet=ROW, tree=CHAIN):
        """A keeper with a history, some letters known."""
        keeper, model = self.both(word, sheet, tree)
        for row in (("settle", 0, 1), ("whole",), ("put", 1, sheet[1][1][1]), ("settle", 1, 2), ("rest", 1)):
            self.alike(keeper, model, *row)
        return keeper, model

    def ended(self, keeper, model):
        """All is told as if nothing had been refused, and undone to the first."""
        self.all_alike(keeper, model)
        for _ in range(3):
            self.alike(keeper, model, "back")
            self.all_alike(keeper, model)
        self.unchanged(keeper, model, NoBack, "back")
        self.unchanged(keeper, model, NoBack, "back")
        self.all_alike(keeper, model)

    def test_no_bag(self):
        keeper, model = self.begun()
        for thing in no_name((0, 1, 2)):
            self.unchanged(keeper, model, NoBag, "rest", thing)
        self.ended(keeper, model)

    def test_no_part_goes_ahead_of_no_worths(self):
        keeper, model = self.begun()
        for thing in no_name((0, 1, 2, 3)):
            for worths in ((1,), (1, 2, 3), None, [1], "", (True,)):
                self.unchanged(keeper, model, NoPart, "put", thing, worths)
        self.ended(keeper, model)
        keeper, model = self.both("sum", ((2,), ()), (((0,),), ()))
        for thing in (0, -1, 1, None, True):
            self.unchanged(keeper, model, NoPart, "put", thing, ())
            self.unchanged(keeper, model, NoPart, "put", thing, (1, 2))

    def test_no_worths(self):
        keeper, model = self.begun()
        for k, (names, worths) in enumerate(ROW[1]):
            for thing in any_things() + [
                worths[:-1], worths + (0,), worths * 2, list(worths), (worths,), (worths, ()), (names, worths), names + names,
                worths[:-1] + (GREAT + 1,), worths[:-1] + (-GREAT - 1,), worths[:-1] + (10 ** 39,), (), [],
                worths[:-1] + (True,), worths[:-1] + (None,), worths[:-1] + ("1",), worths[:-1] + ((1,),),
                worths[:-1] + ([1],), str(worths), (False,) * len(worths), None, 7,
            ]:
                if not is_part(ROW[0], (names, thing)):
                    self.unchanged(keeper, model, NoWorths, "put", k, thing)
        self.ended(keeper, model)

    def test_worths_at_their_bounds(self):
        keeper, model = self.both("sum", ROW, CHAIN)
        self.alike(keeper, model, "put", 3, (GREAT, -GREAT, 0))
        self.all_alike(keeper, model)

    def test_of_any_worths_are_0_and_1(self):
        keeper, model = self.begun("any", BITS, BITS_TREE)
        for worths in ((0, 1, 2), (0, -1, 1), (2, 2, 2), (True, 0, 1), (0, 1, GREAT), (0, 1), (0, 1, 0, 1), [0, 1, 1], None):
            self.unchanged(keeper, model, NoWorths, "put", 1, worths)
        self.unchanged(keeper, model, NoPart, "put", 2, (0, 1, 2))
        self.ended(keeper, model)
        self.alike(keeper, model, "put", 1, (0, 0, 1))
        self.all_alike(keeper, model)
        for word in WORDS[:4]:
            keeper, model = self.both(word, BITS, BITS_TREE)
            self.alike(keeper, model, "put", 1, (0, 2, -1))
            self.all_alike(keeper, model)

    def test_settle_no_name_goes_ahead_of_no_filling(self):
        keeper, model = self.begun()
        for thing in no_name((0, 1, 2)):
            for worth in (0, 5, -1, None, True, "0", (0,)):
                self.unchanged(keeper, model, NoName, "settle", thing, worth)
        for name, size in enumerate(ROW[0]):
            for thing in no_name(tuple(range(size))):
                self.unchanged(keeper, model, NoFilling, "settle", name, thing)
        self.ended(keeper, model)

    def test_free_what_is_not_settled(self):
        keeper, model = self.begun()
        # Name 2 is none that is settled; 0 and 1 are.
        for thing in no_name((0, 1)):
            self.unchanged(keeper, model, NoName, "free", thing)
        self.alike(keeper, model, "free", 1)
        self.unchanged(keeper, model, NoName, "free", 1)
        self.alike(keeper, model, "back")
        self.ended(keeper, model)
        for name in range(3):
            self.unchanged(keeper, model, NoName, "free", name)

    def test_a_name_settled_twice_is_freed_at_once_and_undone_one_by_one(self):
        keeper, model = self.both("most", ROW, CHAIN)
        for row in (("settle", 1, 0), ("settle", 1, 2), ("free", 1)):
            self.alike(keeper, model, *row)
            self.alike(keeper, model, "whole")
        self.unchanged(keeper, model, NoName, "free", 1)
        for _ in range(3):
            self.alike(keeper, model, "back")
            self.all_alike(keeper, model)
        self.unchanged(keeper, model, NoBack, "back")

    def test_no_back(self):
        keeper, model = self.both("sum", ROW, CHAIN)
        self.unchanged(keeper, model, NoBack, "back")
        self.alike(keeper, model, "whole")
        self.unchanged(keeper, model, NoBack, "back")
        self.unchanged(keeper, model, NoFilling, "settle", 0, 2)
        self.unchanged(keeper, model, NoBack, "back")
        self.alike(keeper, model, "put", 2, (7,))
        self.alike(keeper, model, "back")
        self.unchanged(keeper, model, NoBack, "back")
        self.all_alike(keeper, model)


class HandedIn(KeeperCase):
    def test_what_is_handed_in_stays_as_it_was(self):
        draw = Random(11)
        for word in WORDS:
            for sheet, tree in drawn(draw, word, 5):
                before = repr((sheet, tree))
                keeper, model = self.both(word, sheet, tree)
                for _ in range(10):
                    method, *handed = drawn_change(draw, model)
                    self.alike(keeper, model, method, *handed)
                    self.alike(keeper, model, "whole")
                self.assertEqual(repr((sheet, tree)), before)

    def test_trees_by_orders(self):
        keeper, model = self.both("sum", ROW, bag_tree(ROW, (2, 0, 1)))
        self.all_alike(keeper, model)


if __name__ == "__main__":
    unittest.main()
