"""Tests of sumorder.orders: bags without any worths, rooms, and orders that take what is least."""

import unittest
from itertools import combinations, permutations
from random import Random

from shapes import (
    all_tied, bag_by_hand, bags_by_hand, drawn_groups, none_tied, ring, room_by_hand, row, shapes, sheet_of,
    star, tied_in,
)
from sumorder.errors import NoName
from sumorder.orders import bag_behind, bags_of, by_fewest, by_room, by_ties, room_of
from sumorder.taking import taken_out
from things import Case, no_name, no_names, no_order

FEW = (ring(4), row(3), star(5), all_tied(3), none_tied(2), ((2,), ()), ((1,) * 12, ()))


def drawn_orders(draw, many, times):
    """Drawn orders of some names and of all."""
    sizes = [draw.randint(0, many) for _ in range(times)] + [many]
    return [tuple(draw.sample(range(many), size)) for size in sizes]


class BagBehind(Case):
    def test_written_ones(self):
        sheet = ring(5)
        self.told((0, 1, 4), bag_behind, sheet, (), 0)
        self.told((0, 2, 4), bag_behind, sheet, (1,), 0)
        self.told((0, 3, 4), bag_behind, sheet, (1, 2), 0)
        self.told((0, 2, 3), bag_behind, sheet, (1, 4), 0)
        self.told((0,), bag_behind, sheet, (1, 2, 3, 4), 0)
        self.told((0, 1, 4), bag_behind, sheet, (2,), 0)
        self.told((0, 1, 3, 4), bag_behind, sheet_of((2,) * 5, [(0, 1, 2), (2, 3), (3, 4), (0, 4)]), (2,), 0)

    def test_any_names_taken_out(self):
        for sheet in shapes(5):
            for size in range(len(sheet[0])):
                for taken in combinations(range(len(sheet[0])), size):
                    for name in set(range(len(sheet[0]))) - set(taken):
                        self.told(bag_by_hand(sheet, taken, name), bag_behind, sheet, taken, name)

    def test_up_to_twelve_names(self):
        draw = Random(41)
        for sheet in shapes(12):
            many = len(sheet[0])
            for _ in range(6):
                taken = tuple(sorted(draw.sample(range(many), draw.randint(0, many - 1))))
                name = draw.choice([other for other in range(many) if other not in taken])
                self.told(bag_by_hand(sheet, taken, name), bag_behind, sheet, taken, name)

    def test_it_does_not_hang_on_the_order_of_the_others(self):
        for sheet in shapes(5, 1):
            for *taken, name in permutations(range(len(sheet[0]))):
                for size in range(len(taken) + 1):
                    told = bags_of(sheet, tuple(taken[:size]) + (name,))[-1]
                    self.assertEqual(told, bag_behind(sheet, tuple(sorted(taken[:size])), name))

    def test_no_rising_tuple_of_names(self):
        for sheet in FEW:
            for thing in no_names(len(sheet[0])):
                self.refused(NoName, bag_behind, sheet, thing, 0)

    def test_no_name(self):
        for sheet in FEW:
            names = tuple(range(len(sheet[0])))
            for taken in ((), names[1:], names):
                for thing in no_name(names):
                    self.refused(NoName, bag_behind, sheet, taken, thing)

    def test_a_name_of_the_tuple(self):
        for sheet in FEW:
            names = tuple(range(len(sheet[0])))
            for size in range(1, min(4, len(names)) + 1):
                for taken in combinations(names, size):
                    for name in taken:
                        self.refused(NoName, bag_behind, sheet, taken, name)
            self.refused(NoName, bag_behind, sheet, names, names[-1])

    def test_neither(self):
        for thing in no_name((0, 1)):
            self.refused(NoName, bag_behind, row(2), thing, thing)


class Bags(Case):
    def test_written_ones(self):
        self.told([(0, 1, 3), (1, 2, 3), (2, 3), (3,)], bags_of, ring(4), (0, 1, 2, 3))
        self.told([(0, 1, 3), (1, 2, 3), (1, 3), (3,)], bags_of, ring(4), (0, 2, 1, 3))
        self.told([(0, 1), (1, 2), (2,)], bags_of, row(3), (0, 1, 2))
        self.told([(0, 1, 2), (0, 2)], bags_of, row(3), (1, 0))
        self.told([], bags_of, row(3), ())

    def test_held_against_going_along_the_ties(self):
        draw = Random(42)
        for sheet in shapes(12):
            for order in drawn_orders(draw, len(sheet[0]), 2):
                self.told(bags_by_hand(sheet, order), bags_of, sheet, order)

    def test_as_names_are_taken_out(self):
        draw = Random(43)
        for sheet in shapes(12):
            for order in drawn_orders(draw, len(sheet[0]), 2):
                self.told(taken_out("sum", sheet, order)[1], bags_of, sheet, order)

    def test_the_list_is_new_each_time(self):
        told = bags_of(ring(4), (0, 1))
        told.append(None)
        self.told([(0, 1, 3), (1, 2, 3)], bags_of, ring(4), (0, 1))

    def test_no_order(self):
        for sheet in FEW:
            for thing in no_order(len(sheet[0])):
                self.refused(NoName, bags_of, sheet, thing)


class Rooms(Case):
    def test_written_ones(self):
        sheet = sheet_of((2, 3, 4), [(0, 1), (1, 2)])
        for order, told in (((0, 1, 2), 12), ((1, 0, 2), 24), ((1, 2, 0), 24), ((2, 1, 0), 12)):
            self.told(told, room_of, sheet, order)
        self.told(4, room_of, ((2, 3, 4), ()), (1, 0, 2))
        self.told(1, room_of, ((1,), ()), (0,))

    def test_the_greatest_product_of_a_bags_sizes(self):
        draw = Random(44)
        for sheet in shapes(12):
            order = drawn_orders(draw, len(sheet[0]), 0)[0]
            expected = max(room_by_hand(sheet, bag) for bag in bags_by_hand(sheet, order))
            self.told(expected, room_of, sheet, order)

    def test_no_order_of_all_names(self):
        for sheet in FEW:
            many = len(sheet[0])
            lacking = [(), tuple(range(many - 1)), tuple(range(1, many)), tuple(reversed(range(1, many)))]
            for thing in no_order(many) + lacking:
                self.refused(NoName, room_of, sheet, thing)


def least_by_hand(sheet, cost):
    """The order that always takes the least name of those whose bag costs least."""
    ties, order = tied_in(sheet), ()
    while len(order) < len(sheet[0]):
        left = [name for name in range(len(sheet[0])) if name not in order]
        costs = {name: cost(bag_by_hand(sheet, order, name), ties) for name in left}
        name = next(name for name in left if costs[name] == min(costs.values()))
        bag = bag_by_hand(sheet, order, name)
        ties |= {(one, other) for one in bag for other in bag if one != other}
        order += (name,)
    return order


class LeastBy(Case):
    def held(self, sheet):
        """Each of the three orders is the one by its rule."""
        self.told(least_by_hand(sheet, lambda bag, ties: len(bag)), by_fewest, sheet)
        self.told(least_by_hand(sheet, lambda bag, ties: room_by_hand(sheet, bag)), by_room, sheet)
        self.told(least_by_hand(sheet, lambda bag, ties: sum(
            pair not in ties for pair in combinations(bag, 2))), by_ties, sheet)

    def test_of_like_ones_the_least(self):
        for many in (1, 2, 5, 12):
            for sheet in (((2,) * many, ()), sheet_of((1,) * many, [range(many)])):
                for by in (by_fewest, by_room, by_ties):
                    self.told(tuple(range(many)), by, sheet)

    def test_written_ones(self):
        # 3 and 4 are tied to one name, 0 to two that are tied; 3 has a greater size than the others.
        sheet = sheet_of((2, 2, 2, 4, 2), [(0, 1), (0, 2), (1, 2), (1, 3), (2, 4)])
        self.told((3, 4, 0, 1, 2), by_fewest, sheet)
        self.told((4, 0, 2, 1, 3), by_room, sheet)
        self.told((0, 3, 1, 2, 4), by_ties, sheet)

    def test_ties_that_bags_put_in_count(self):
        # On a ring each first name puts in one tie; the two beside it are then free of new ones.
        self.told((0, 1, 2, 3, 4), by_ties, ring(5))
        sheet = sheet_of((2,) * 6, [(0, 5), (5, 1), (1, 4), (4, 2), (2, 0), (3, 0), (3, 1), (3, 2), (3, 4)])
        order = by_ties(sheet)
        counted, uncounted = [], []
        ties = tied_in(sheet)
        for bag in bags_by_hand(sheet, order):
            counted.append(len([pair for pair in combinations(bag, 2) if pair not in ties]))
            uncounted.append(len([pair for pair in combinations(bag, 2) if pair not in tied_in(sheet)]))
            ties |= set(combinations(bag, 2))
        self.assertNotEqual(counted, uncounted)
        self.held(sheet)

    def test_up_to_twelve_names(self):
        for sheet in shapes(12, 4):
            self.held(sheet)

    def test_drawn_pairs_and_threes(self):
        draw = Random(45)
        for _ in range(60):
            many = draw.randint(5, 12)
            self.held(drawn_groups(draw, many, draw.randint(many // 2, 2 * many)))

    def test_the_three_rules_differ(self):
        draw = Random(46)
        told = [(by_fewest(sheet), by_room(sheet), by_ties(sheet))
                for sheet in (drawn_groups(draw, 8, 10) for _ in range(20))]
        self.assertTrue([1 for fewest, room, ties in told if len({fewest, room, ties}) == 3])


if __name__ == "__main__":
    unittest.main()
