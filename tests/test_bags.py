"""Tests of sumorder.bags: which trees of bags are right for a sheet, the tree by an order, its room."""

import unittest
from itertools import combinations, permutations, product
from random import Random

from shapes import all_tied, bags_by_hand, none_tied, ring, room_by_hand, row, shapes, sheet_of, star
from sumorder.bags import bag_tree, is_bag_tree, tree_room
from sumorder.errors import NoName
from sumorder.fresh import no_new_ties
from sumorder.orders import bags_of, by_fewest, by_room, by_ties, room_of
from things import Case, any_things, no_names, no_order

ROW = sheet_of((2, 3, 4), [(0, 1), (1, 2)])
FEW = (ring(4), row(3), star(5), all_tied(3), none_tied(2), ((2,), ()), ((1,) * 12, ()))
NOT_A_NUMBER = (None, True, False, "", "0", "1", (), (0,), [], [1], -1, 10 ** 39, -10 ** 39)


def hang(numbers, ties):
    """Whether these bags hang together by ties between them: like groups are put together."""
    groups = {number: number for number in numbers}
    for i, j in ties:
        if i in groups and j in groups:
            old, new = groups[i], groups[j]
            groups = {number: new if group == old else group for number, group in groups.items()}
    return len(set(groups.values())) == 1


def is_right(sheet, bags, ties):
    """Whether bags and ties, each of its right kind, are a tree right for the sheet."""
    if list(ties) != sorted(set(ties)) or len(ties) != len(bags) - 1 or not hang(range(len(bags)), ties):
        return False
    if not all(any(set(names) <= set(bag) for bag in bags) for names, worths in sheet[1]):
        return False
    return all(hang([at for at, bag in enumerate(bags) if name in bag], ties) for name in range(len(sheet[0])))


def by_sentence(sheet, order):
    """The tree by an order, by the document's sentence."""
    bags, ties = bags_by_hand(sheet, order), []
    for k, bag in enumerate(bags[:-1]):
        others = [order.index(name) for name in bag if name != order[k]]
        ties.append((k, min(others, default=k + 1)))
    return (tuple(bags), tuple(sorted(ties)))


class Trees(Case):
    def yes(self, sheet, *trees):
        for tree in trees:
            self.told(True, is_bag_tree, sheet, tree)

    def no(self, sheet, *things):
        for thing in things:
            self.told(False, is_bag_tree, sheet, thing)

    def test_right_ones(self):
        self.yes(ROW, (((0, 1, 2),), ()), (((0, 1), (1, 2)), ((0, 1),)), (((1, 2), (0, 1)), ((0, 1),)))
        self.yes(ROW, (((0, 1), (1,), (1, 2)), ((0, 1), (1, 2))), (((1,), (0, 1), (1, 2)), ((0, 1), (0, 2))))
        self.yes(ROW, (((0, 1, 2), (0, 2), (2,)), ((0, 1), (0, 2))), (((0, 1, 2),) * 3, ((0, 2), (1, 2))))
        self.yes(((2, 3), ()), (((0, 1),), ()), (((0,), (1,)), ((0, 1),)))
        self.yes(((2,), (((), (5,)), ((0,), (1, 2)))), (((0,),), ()))

    def test_bags_without_names(self):
        self.yes(ROW, (((0, 1, 2), ()), ((0, 1),)), (((), (0, 1, 2)), ((0, 1),)))
        self.yes(ROW, (((), (0, 1), (1, 2), ()), ((0, 2), (1, 2), (1, 3))))
        self.yes(((2, 3), ()), (((0,), (), (1,)), ((0, 1), (1, 2))))
        # A bag without names between bags that have one parts them.
        self.no(ROW, (((0, 1), (), (1, 2)), ((0, 1), (1, 2))), (((),), ()), (((), ()), ((0, 1),)))

    def test_one_bag(self):
        self.yes(((2,), ()), (((0,),), ()))
        self.no(((2,), ()), ((), ()), (((),), ()), (((0,),), ((0, 0),)), (((0,),), ((0, 1),)), (((0,),), None))

    def test_twelve_bags_and_thirteen(self):
        for sheet in (ROW, ((2,), ())):
            names = tuple(range(len(sheet[0])))
            for many in range(1, 13):
                chain = tuple((at, at + 1) for at in range(many - 1))
                around = tuple((0, at) for at in range(1, many))
                self.yes(sheet, ((names,) * many, chain), ((names,) * many, around))
                self.yes(sheet, ((names,) + ((),) * (many - 1), chain))
            for many in (13, 14, 30):
                chain = tuple((at, at + 1) for at in range(many - 1))
                self.no(sheet, ((names,) * many, chain), ((names,) + ((),) * (many - 1), chain))

    def test_a_name_in_two_bags_apart(self):
        self.no(ROW, (((0, 1), (2,), (1, 2)), ((0, 1), (1, 2))), (((0, 1), (1, 2), (0,)), ((0, 1), (1, 2))))
        self.yes(ROW, (((0, 1), (1, 2), (0,)), ((0, 1), (0, 2))))

    def test_a_part_whose_names_stand_in_no_bag_together(self):
        self.no(ROW, (((0, 1), (2,)), ((0, 1),)), (((0, 2), (1, 2)), ((0, 1),)))
        self.no(ring(3), (((0, 1), (1, 2)), ((0, 1),)))
        three = sheet_of((2,) * 3, [(0, 1, 2)])
        self.no(three, (((0, 1), (1, 2)), ((0, 1),)), (((0, 1), (1, 2), (1,)), ((0, 2), (1, 2))))
        self.yes(three, (((0, 1, 2), (1, 2)), ((0, 1),)))

    def test_a_name_in_no_bag(self):
        self.no(((2, 3), ()), (((0,),), ()), (((1,),), ()), (((0,), ()), ((0, 1),)), (((0,), (0,)), ((0, 1),)))
        self.no(((2, 3, 2), (((0, 1), (1,) * 6),)), (((0, 1),), ()))

    def test_ties(self):
        bags = ((0, 1), (1, 2), (1,))
        right = ((0, 1), (1, 2))
        self.yes(ROW, (bags, right), (bags, ((0, 1), (0, 2))), (bags, ((0, 2), (1, 2))))
        self.no(ROW, *[(bags, ties) for ties in (
            ((1, 0), (1, 2)), ((0, 1), (2, 1)), ((1, 2), (0, 1)), ((0, 1), (0, 1)), ((0, 1), (0, 1), (1, 2)),
            ((0, 1), (0, 2), (1, 2)), ((0, 1),), (), ((0, 0), (1, 2)), ((0, 1), (1, 1)), ((0, 1), (1, 3)),
            ((0, 1), (3, 4)), ((-1, 0), (0, 1)), ((-2, 1), (1, 2)), ((0, 1), (1, 2), ()), ((0, 1), ()), ((0, 1), (1,)),
            ((0, 1), (1, 2, 2)), ((0, 1, 2), (1, 2)), (0, 1), (0, 1, 1, 2), ((0, 1), [1, 2]), [(0, 1), (1, 2)],
            ((0, 1), None), ((0, 1), "12"), "", None, 0, True, (((0, 1), (1, 2)),), ((0, 1), ((1, 2),)),
        )])

    def test_ties_that_leave_bags_apart(self):
        # Three ties of four bags that go around leave one of them apart.
        for names in ((), (0,)):
            bags = ((0,), names, names, names)
            self.no(((2,), ()), (bags, ((0, 1), (0, 2), (1, 2))), (bags, ((1, 2), (1, 3), (2, 3))))
            self.yes(((2,), ()), (bags, ((0, 1), (0, 2), (2, 3))))

    def test_all_ties_of_four_bags(self):
        sheets = (sheet_of((2,) * 3, [(0, 1), (1, 2)]), ((2, 2, 2), ()), ring(3))
        pairs = list(combinations(range(4), 2))
        answers = []
        for sheet in sheets:
            for bags in (((0, 1), (1, 2), (), (1,)), ((0, 1), (1, 2), (1,), (1, 2)), ((0,), (1,), (2,), (0, 1, 2))):
                for size in range(5):
                    for ties in combinations(pairs, size):
                        answers.append(is_right(sheet, bags, ties))
                        self.told(answers[-1], is_bag_tree, sheet, (bags, ties))
        self.assertIn(True, answers)

    def test_all_bags_of_a_chain(self):
        subsets = [names for size in range(4) for names in combinations(range(3), size)]
        for sheet in (ROW, ring(3), ((2, 2, 2), ())):
            for bags in product(subsets, repeat=3):
                for ties in (((0, 1), (1, 2)), ((0, 1), (0, 2))):
                    self.told(is_right(sheet, bags, ties), is_bag_tree, sheet, (bags, ties))

    def test_changed_trees_of_drawn_sheets(self):
        draw = Random(71)
        for sheet in shapes(12):
            many = len(sheet[0])
            order = tuple(draw.sample(range(many), many))
            bags, ties = bag_tree(sheet, order)
            for at, bag in enumerate(bags):
                for name in bag:
                    fewer = tuple(other for other in bag if other != name)
                    changed = bags[:at] + (fewer,) + bags[at + 1:]
                    self.told(is_right(sheet, changed, ties), is_bag_tree, sheet, (changed, ties))
            for at in range(len(ties)):
                self.no(sheet, (bags, ties[:at] + ties[at + 1:]))
                i, j = ties[at]
                turned = tuple(sorted(ties[:at] + ((j, i),) + ties[at + 1:]))
                self.no(sheet, (bags, turned))

    def test_other_kinds_of_bags(self):
        ties = ((0, 1),)
        self.no(ROW, *[(bags, ties) for bags in (
            [(0, 1), (1, 2)], ([0, 1], (1, 2)), ((0, 1), [1, 2]), ((0, 1), (2, 1)), ((1, 0), (1, 2)),
            ((0, 1), (1, 1, 2)), ((0, 1), (1, 2, 3)), ((-1, 0, 1), (1, 2)), ((0, 1), (1, 2), None),
            ((0, 1), None), "", None, 1, True,
            ((0, 1), (True, 2)), ((False, 1), (1, 2)), ((0, True), (1, 2)), ((0, 1), ("1", 2)), ((0, 1), (1, (2,))),
            (((0, 1), (1, 2)),), ((0, 1), ((1, 2),)), ((0, 1), "12"), (0, 1), ((0, 1),), (),
        )])
        for thing in no_names(3):
            self.no(ROW, (((0, 1, 2), thing), ties), ((thing, (0, 1, 2)), ties), ((thing,), ()))

    def test_other_kinds_of_ties(self):
        bags = ((0, 1), (1, 2))
        self.yes(ROW, (bags, ((0, 1),)))
        for thing in NOT_A_NUMBER:
            self.no(ROW, (bags, ((thing, 1),)), (bags, ((0, thing),)), (bags, (thing,)), (bags, thing))
        for thing in any_things():
            self.no(ROW, (bags, thing), (bags, (thing,)), (bags, ((0, 1), thing)))
            self.no(ROW, (((0, 1, 2),), thing))
        self.no(ROW, (bags, ((False, True),)), (bags, ((0, True),)), (bags, ((False, 1),)), (bags, ([0, 1],)))

    def test_other_kinds_of_things(self):
        bags, ties = ((0, 1), (1, 2)), ((0, 1),)
        self.no(ROW, [bags, ties], (bags,), (bags, ties, ()), (bags, ties, ties), (ties, bags), ((bags, ties),))
        self.no(ROW, bags, ties)
        for sheet in FEW:
            self.no(sheet, *any_things())
            self.no(sheet, *[(thing, ()) for thing in any_things()], *[(thing, thing) for thing in any_things()])


class TreeBy(Case):
    def test_written_ones(self):
        self.told((((0, 1), (1, 2), (2,)), ((0, 1), (1, 2))), bag_tree, ROW, (0, 1, 2))
        self.told((((0, 1, 2), (0, 2), (2,)), ((0, 1), (1, 2))), bag_tree, ROW, (1, 0, 2))
        self.told((((0, 1), (1, 2), (1,)), ((0, 2), (1, 2))), bag_tree, ROW, (0, 2, 1))
        self.told((((0,), (1,), (2,)), ((0, 1), (1, 2))), bag_tree, ((2, 2, 2), ()), (0, 1, 2))
        self.told((((0,),), ()), bag_tree, ((2,), ()), (0,))
        # Of two other names the one that comes first in the order, not the lesser one.
        sheet = sheet_of((2,) * 4, [(0, 1, 3), (2,)])
        self.told((((0, 1, 3), (2,), (1, 3), (1,)), ((0, 2), (1, 2), (2, 3))), bag_tree, sheet, (0, 2, 3, 1))

    def test_each_order_by_the_sentence(self):
        for sheet in shapes(5, 1):
            for order in permutations(range(len(sheet[0]))):
                tree = by_sentence(sheet, order)
                self.told(tree, bag_tree, sheet, order)
                self.assertIs(is_bag_tree(sheet, tree), True)

    def test_up_to_twelve_names(self):
        draw = Random(72)
        for sheet in shapes(12):
            many = len(sheet[0])
            for order in (tuple(draw.sample(range(many), many)), by_fewest(sheet), by_room(sheet), by_ties(sheet)):
                tree = by_sentence(sheet, order)
                self.told(tree, bag_tree, sheet, order)
                self.told(True, is_bag_tree, sheet, tree)
                self.assertTrue(is_right(sheet, *tree))
                self.told(room_of(sheet, order), tree_room, sheet, tree)

    def test_its_bags_are_those_of_the_order(self):
        for sheet in (ring(6), star(4), none_tied(3)):
            order = tuple(reversed(range(len(sheet[0]))))
            self.assertEqual(list(bag_tree(sheet, order)[0]), bags_of(sheet, order))

    def test_by_an_order_that_ties_none_anew(self):
        for sheet in (row(6), star(5), all_tied(4)):
            self.told(True, is_bag_tree, sheet, bag_tree(sheet, no_new_ties(sheet)[1]))

    def test_no_order_of_all_names(self):
        for sheet in FEW:
            many = len(sheet[0])
            lacking = [(), tuple(range(many - 1)), tuple(range(1, many)), tuple(reversed(range(1, many)))]
            for thing in no_order(many) + lacking:
                self.refused(NoName, bag_tree, sheet, thing)


class Rooms(Case):
    def test_written_ones(self):
        self.told(12, tree_room, ROW, (((0, 1), (1, 2)), ((0, 1),)))
        self.told(24, tree_room, ROW, (((0, 1, 2), (1,)), ((0, 1),)))
        self.told(4, tree_room, ROW, (((0,), (), (2,)), ((0, 1), (0, 2))))

    def test_bags_without_names(self):
        self.told(1, tree_room, ROW, (((),), ()))
        self.told(1, tree_room, ROW, (((), (), ()), ((0, 1), (1, 2))))
        self.told(1, tree_room, ((1, 1), ()), (((), (0, 1)), ((0, 1),)))

    def test_trees_that_are_not_right(self):
        draw = Random(73)
        for sheet in shapes(8):
            for _ in range(4):
                many = draw.randint(1, 12)
                bags = tuple(tuple(sorted(draw.sample(range(len(sheet[0])), draw.randint(0, len(sheet[0])))))
                             for _ in range(many))
                tree = (bags, tuple((at, at + 1) for at in range(many - 1)))
                self.told(max(room_by_hand(sheet, bag) for bag in bags), tree_room, sheet, tree)


if __name__ == "__main__":
    unittest.main()
