"""Tests of sumorder.best: best fillings, how many there are, and bounds by offers."""

import unittest
from itertools import combinations
from random import Random

import by_hand
from by_hand import OF_NOTHING, WORDS, drawn_part, drawn_sheet, drawn_sizes
from sumorder.best import best, bound_by, how_many_best
from sumorder.errors import NoDeeds, NoOffers
from sumorder.letters import letters
from sumorder.sheets import worth_of
from sumorder.wholes import whole
from things import Case, any_things
from trees import best_by_hand, drawn, laid, one_bag, star_of_twelve, ways_to

CHOOSING = ("most", "least", "wide", "any")
PLUS = ("most", "least")
WRITTEN = ((2, 3), (((0, 1), (1, 2, 3, 4, 5, -6)), ((), (7,))))
ROW = ((2, 3, 2), (((0, 1), (1, 2, 3, 4, 5, -6)), ((1, 2), (1, 0, 2, 1, 0, 3)), ((), (7,)), ((1,), (1, -1, 2))))
CHAIN = (((0, 1), (1, 2), (1,)), ((0, 1), (1, 2)))


class Best(Case):
    def best_is(self, word, sheet):
        """What is told of best fillings, held against all fillings."""
        expected, fillings = best_by_hand(word, sheet, {})
        told = self.asked(best, word, sheet)
        self.assertIs(type(told), tuple)
        worth, filling = told
        self.assertEqual(repr(worth), repr(expected))
        self.assertIn(repr(filling), [repr(each) for each in fillings])
        self.told(len(fillings), how_many_best, word, sheet)
        self.assertEqual(worth, whole(word, sheet))
        self.assertEqual(worth, worth_of(word, sheet, filling))

    def test_the_written_sheet(self):
        self.told((12, (1, 1)), best, "most", WRITTEN)
        self.told((1, (1, 2)), best, "least", WRITTEN)
        self.told((5, (1, 1)), best, "wide", WRITTEN)
        for word in ("most", "least", "wide"):
            self.told(1, how_many_best, word, WRITTEN)

    def test_drawn_sheets(self):
        for word in CHOOSING:
            for sheet, tree in drawn(Random(1), word, 60):
                self.best_is(word, sheet)

    def test_many_equal_ones(self):
        for word in CHOOSING:
            for high in (0, 1):
                for sheet, tree in drawn(Random(2), word, 30, 5, 3, high):
                    self.best_is(word, sheet)

    def test_without_parts_all_fillings_are_alike(self):
        for word in CHOOSING:
            for sizes in ((1,), (4,), (2, 3), (1,) * 12, (2, 1, 3, 2)):
                worth, filling = self.asked(best, word, (sizes, ()))
                self.assertEqual(worth, OF_NOTHING[word])
                self.assertIn(filling, by_hand.fillings((sizes, ())))
                self.told(len(by_hand.fillings((sizes, ()))), how_many_best, word, (sizes, ()))

    def test_by_any_none_may_do(self):
        sheet = ((2, 2), (((0,), (0, 1)), ((0, 1), (1, 1, 0, 0))))
        worth, filling = self.asked(best, "any", sheet)
        self.assertEqual(worth, 0)
        self.told(4, how_many_best, "any", sheet)

    def test_some_thousand_fillings(self):
        for word in CHOOSING:
            for sizes in ((4, 4, 4, 4, 4, 3), (2,) * 11 + (1,)):
                self.best_is(word, drawn_sheet(Random(3), word, sizes, 10, 3, 10 ** 12))

    def test_refused_of_sum(self):
        for sheet in (WRITTEN, ((2,), ()), ((1,), (((), (0,)),))):
            self.refused(NoDeeds, best, "sum", sheet)
            self.refused(NoDeeds, how_many_best, "sum", sheet)


def drawn_offers(draw, sheet, tree, high=9):
    """Offers of drawn numbers, of some or all or none of the names that both bags have."""
    told = []
    for i, j in ways_to(tree, 0):
        both = [name for name in tree[0][i] if name in tree[0][j]]
        names = tuple(sorted(draw.sample(both, draw.randint(0, len(both)))))
        told.append((i, j, drawn_part(draw, "most", sheet[0], names, high)))
    return told


def bound_by_hand(word, sheet, tree, offers):
    """The bound by the document's sentences, worth by worth."""
    sizes, parts = sheet
    told = 0
    for at, bag in enumerate(tree[0]):
        adding = [by_hand.worth_in(sizes, part) for part, there in zip(parts, laid(sheet, tree)) if there == at]
        adding += [by_hand.worth_in(sizes, part) for i, j, part in offers if j == at]
        taking = [by_hand.worth_in(sizes, part) for i, j, part in offers if i == at]
        worths = []
        for worths_there in by_hand.tuples(sizes, bag):
            filling = dict(zip(bag, worths_there))
            worths.append(sum(reader(filling) for reader in adding) - sum(reader(filling) for reader in taking))
        told += max(worths) if word == "most" else min(worths)
    return told


class Bounds(Case):
    def bound_is(self, word, sheet, tree, offers):
        """The bound told, held against the document's sentences and all fillings."""
        told = bound_by_hand(word, sheet, tree, offers)
        self.told(told, bound_by, word, sheet, tree, offers)
        reached = by_hand.whole(word, sheet)
        self.assertLessEqual(*((reached, told) if word == "most" else (told, reached)))

    def test_written_ones(self):
        tree = (((0, 1), (1, 2)), ((0, 1),))
        # Bag 0: 7 + part (0, 1) + part (1,) + offer; bag 1: part (1, 2) - offer.
        self.told(12 + 3, bound_by, "most", ROW, tree, [(1, 0, ((), (0,)))])
        self.told(12 + 3, bound_by, "most", ROW, tree, [(1, 0, ((), (100,)))])
        self.told(15, bound_by, "most", ROW, tree, [(1, 0, ((1,), (1, 2, 3)))])
        self.told(112 + 3, bound_by, "most", ROW, tree, [(1, 0, ((1,), (100, 0, 0)))])
        self.told(3 + 0, bound_by, "least", ROW, tree, [(1, 0, ((), (0,)))])

    def test_drawn_offers(self):
        draw = Random(4)
        for word in PLUS:
            for sheet, tree in drawn(draw, word, 60):
                self.bound_is(word, sheet, tree, drawn_offers(draw, sheet, tree))

    def test_numbers_of_forty_figures(self):
        draw = Random(5)
        for word in PLUS:
            for sheet, tree in drawn(draw, word, 20):
                self.bound_is(word, sheet, tree, drawn_offers(draw, sheet, tree, 10 ** 40 - 1))

    def test_offers_of_no_names_change_nothing(self):
        draw = Random(6)
        for word in PLUS:
            for sheet, tree in drawn(draw, word, 20):
                one, other = [[(i, j, ((), (draw.randint(-9, 9),))) for i, j in ways_to(tree, 0)] for _ in range(2)]
                self.bound_is(word, sheet, tree, one)
                self.assertEqual(bound_by(word, sheet, tree, one), bound_by(word, sheet, tree, other))

    def test_the_letters_towards_bag_0_reach_the_whole(self):
        draw = Random(7)
        for word in PLUS:
            for sheet, tree in drawn(draw, word, 40):
                towards = [letter for letter in letters(word, sheet, tree) if letter[:2] in ways_to(tree, 0)]
                self.told(by_hand.whole(word, sheet), bound_by, word, sheet, tree, towards)

    def test_trees_of_one_bag(self):
        for word in PLUS:
            for sheet, tree in drawn(Random(8), word, 10):
                self.told(by_hand.whole(word, sheet), bound_by, word, sheet, one_bag(sheet), [])
                for thing in ((), None, [None], [()], [(0, 0, ((), (0,)))], [(0, 1, ((), (0,)))], [[]]):
                    self.refused(NoOffers, bound_by, word, sheet, one_bag(sheet), thing)

    def test_stars_of_twelve_bags(self):
        draw = Random(9)
        for word in PLUS:
            for sheet, tree in drawn(draw, word, 4, 4):
                tree = star_of_twelve(draw, sheet)
                self.bound_is(word, sheet, tree, drawn_offers(draw, sheet, tree))

    def test_twelve_names(self):
        draw = Random(10)
        for word in PLUS:
            sheet = drawn_sheet(draw, word, drawn_sizes(draw, 12, 2), 12, 2)
            tree = one_bag(sheet)
            self.bound_is(word, sheet, tree, [])

    def test_other_deeds_go_ahead_of_all(self):
        right = [(1, 0, ((1,), (1, 2, 3))), (2, 1, ((), (0,)))]
        for word in ("sum", "wide", "any"):
            for offers in [right, [], None, right[:1]] + any_things():
                self.refused(NoDeeds, bound_by, word, ROW, CHAIN, offers)

    def test_offers_that_are_none(self):
        one, two = (1, 0, ((1,), (1, 2, 3))), (2, 1, ((1,), (4, 5, 6)))
        for word in PLUS:
            self.assertEqual(bound_by(word, ROW, CHAIN, [one, two]), bound_by_hand(word, ROW, CHAIN, [one, two]))
            for offers in (
                [], [one], [two], [two, one], [one, one], [one, one, two], [one, two, two], [one, two, one],
                (one, two), [[one, two]], None, [one, two, None], [one, None], [None, two], [one, two, ()],
                [(0, 1, one[2]), one, two], [(0, 1, one[2]), two], [one, (2, 0, two[2])], [one, (1, 2, two[2])],
                [one, (3, 1, two[2])], [(1, 2, one[2]), two], [(2, 0, one[2]), two], [(-1, 0, one[2]), two],
                [(True, 0, one[2]), two], [(1, False, one[2]), two], [one, (2, True, two[2])], [(1, -3, one[2]), two],
                [list(one), two], [one, list(two)], [(1, 0), two], [(1, 0, one[2], 0), two], [((1, 0), one[2]), two],
                [("1", 0, one[2]), two], [(1, None, one[2]), two], [(1, (0,), one[2]), two], [([1], 0, one[2]), two],
            ):
                self.refused(NoOffers, bound_by, word, ROW, CHAIN, offers)

    def test_parts_that_are_none(self):
        # Both bags of the tie (0, 1) have the names 1 and 2; each has another one, too.
        sheet = ((2, 2, 3, 2), (((0, 1, 2), (1,) * 12), ((1, 2, 3), (2,) * 12)))
        tree = (((0, 1, 2), (1, 2, 3)), ((0, 1),))
        for word in PLUS:
            for names in ((), (1,), (2,), (1, 2)):
                many = len(by_hand.tuples(sheet[0], names))
                self.told(3, bound_by, word, sheet, tree, [(1, 0, (names, (5,) * many))])
                for size in {0, many - 1, many + 1, 2 * many}:
                    self.refused(NoOffers, bound_by, word, sheet, tree, [(1, 0, (names, (5,) * size))])
                for thing in (True, False, None, "5", "", (), (5,), [], [5]):
                    for at in range(many):
                        worths = (5,) * at + (thing,) + (5,) * (many - at - 1)
                        self.refused(NoOffers, bound_by, word, sheet, tree, [(1, 0, (names, worths))])
                for part in (
                    [names, (5,) * many], (list(names), (5,) * many), (names, [5] * many), (names,), (names, None),
                    (names, (5,) * many, ()), (None, (5,) * many), (names, "5" * many), ((5,) * many, names), names,
                    (names, 5), "", None, 0, (),
                ):
                    self.refused(NoOffers, bound_by, word, sheet, tree, [(1, 0, part)])
            for names in [names for size in range(1, 5) for names in combinations(range(4), size)]:
                if not set(names) <= {1, 2}:
                    part = (names, (5,) * len(by_hand.tuples(sheet[0], names)))
                    self.refused(NoOffers, bound_by, word, sheet, tree, [(1, 0, part)])
            for names, many in (
                ((2, 1), 6), ((1, 1), 4), ((2, 2), 9), ((2, 2), 3), ((1, 1), 2), ((4,), 2), ((-1,), 2), ((-2,), 3),
                ((-3, 2), 6), ((True,), 2), ((True, 2), 6), (("1",), 2), ((None,), 2), (((1,),), 2), (([1],), 2),
                ((1, 2, 2), 18), ((10 ** 39,), 2), ((1, "2"), 6), ((1, None), 6),
            ):
                self.refused(NoOffers, bound_by, word, sheet, tree, [(1, 0, (names, (5,) * many))])

    def test_other_things(self):
        one = (1, 0, ((1,), (1, 2, 3)))
        for word in PLUS:
            for thing in any_things():
                for offers in (
                    thing, [thing], [thing, thing], [one, thing], [one, (2, 1, thing)],
                    [one, (2, 1, (thing, (0,)))], [one, (2, 1, ((1,), thing))], [one, (2, 1, (thing, thing))],
                ):
                    self.refused(NoOffers, bound_by, word, ROW, CHAIN, offers)
                if thing is True or thing != 1:
                    self.refused(NoOffers, bound_by, word, ROW, CHAIN, [one, (2, thing, ((), (0,)))])


if __name__ == "__main__":
    unittest.main()
