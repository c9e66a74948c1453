"""Tests over the whole program: one sheet told of in all ways, and nothing that is handed in is changed."""

import unittest
from itertools import permutations
from random import Random

import by_hand
from by_hand import WORDS, drawn_sheet, drawn_sizes
from sumorder.bags import bag_tree, is_bag_tree, tree_room
from sumorder.best import best, bound_by, how_many_best
from sumorder.desk import Desk
from sumorder.floors import are_floors, least_room
from sumorder.fresh import is_no_new, no_new_ties
from sumorder.joins import gathered, joined, settled, widened
from sumorder.keeper import Keeper
from sumorder.letters import are_letters, bag_rest, letters
from sumorder.numbers import filling_at, number_of, share_of
from sumorder.orders import bags_of, by_fewest, by_room, by_ties, room_of
from sumorder.rounds import rounds, rounds_to
from sumorder.sheets import is_part, is_sheet, worth_of
from sumorder.taking import taken_out, whole_by
from sumorder.texts import read_sheet, sheet_text
from sumorder.wholes import rest, whole
from things import Case
from trees import ways, ways_to

WRITTEN = (
    (2, 3, 2, 1, 3),
    (((0, 1), (1, 2, 3, 4, 5, 6)), ((1, 2), (1, 0, 2, 1, 0, 3)), ((2, 4), (3, 1, 0, 2, 2, 1)), ((3,), (2,)), ((), (7,)),
     ((0, 4), (1, 1, 2, 0, 1, 3))),
)
BITS = (WRITTEN[0], tuple((names, tuple(worth % 2 for worth in worths)) for names, worths in WRITTEN[1]))


class OneSheetAllThrough(Case):
    def all_through(self, word, sheet, orders):
        """The whole, told in all ways that there are, is the same."""
        told = by_hand.whole(word, sheet)
        self.told(told, whole, word, sheet)
        desk = Desk()
        self.assertEqual(desk.say("sheet " + sheet_text(sheet)), "ok")
        self.assertEqual(desk.say("deeds " + word), "ok")
        for order in orders:
            self.assertEqual(whole_by(word, sheet, order), told)
            tree = bag_tree(sheet, order)
            keeper = Keeper(word, sheet, tree)
            self.assertEqual(keeper.whole(), told)
            self.assertEqual(desk.say("order " + " ".join(map(str, order))), "ok")
            self.assertEqual(desk.say("whole"), str(told))
            for at, bag in enumerate(tree[0]):
                part = bag_rest(word, sheet, tree, at)
                self.assertEqual(part, rest(word, sheet, bag))
                self.assertEqual(by_hand.gather(word, part[1]), told)
                self.assertEqual(keeper.rest(at), part)
                answer = ",".join(map(str, bag)) + " : " + ",".join(map(str, part[1]))
                self.assertEqual(desk.say(f"rest {at}"), answer)
            self.assertEqual(keeper.reckoned(), 2 * len(tree[1]))
            self.assertEqual(desk.say("letters"), str(2 * len(tree[1])))

    def test_the_written_sheet_by_each_order(self):
        self.assertTrue(is_sheet(WRITTEN) and is_sheet(BITS))
        for word in WORDS:
            self.all_through(word, BITS if word == "any" else WRITTEN, list(permutations(range(5))))

    def test_drawn_sheets(self):
        draw = Random(1)
        for word in WORDS:
            for at in range(12):
                many = 1 + at % 8
                sheet = drawn_sheet(draw, word, drawn_sizes(draw, many, 3 if many < 6 else 2), draw.randint(0, 8))
                orders = [tuple(draw.sample(range(many), many)) for _ in range(3)]
                self.all_through(word, sheet, orders + [by_fewest(sheet), by_room(sheet), by_ties(sheet)])

    def test_best_fillings_and_bounds_meet_the_whole(self):
        for word in ("most", "least"):
            for order in permutations(range(5)):
                tree = bag_tree(WRITTEN, order)
                towards = [letter for letter in letters(word, WRITTEN, tree) if letter[:2] in ways_to(tree, 0)]
                worth, filling = best(word, WRITTEN)
                self.assertEqual(bound_by(word, WRITTEN, tree, towards), worth)
                self.assertEqual(worth_of(word, WRITTEN, filling), worth)
                self.assertEqual(worth, whole(word, WRITTEN))

    def test_orders_floors_and_trees_go_together(self):
        room, order, floors = least_room(WRITTEN)
        self.assertTrue(are_floors(WRITTEN, floors, room))
        self.assertEqual(room, min(room_of(WRITTEN, each) for each in permutations(range(5))))
        self.assertEqual(tree_room(WRITTEN, bag_tree(WRITTEN, order)), room)
        self.assertTrue(is_no_new(WRITTEN, no_new_ties(WRITTEN)))
        self.assertEqual(no_new_ties(WRITTEN)[0], "ring")

    def test_rounds_tell_all_letters(self):
        for order in permutations(range(5)):
            tree = bag_tree(WRITTEN, order)
            told = [(i, j) for i, j, part in letters("sum", WRITTEN, tree)]
            self.assertEqual(sorted(way for each in rounds(tree) for way in each), told)
            self.assertEqual(told, ways(tree))
            self.assertEqual(sorted(way for each in rounds_to(tree, 0) for way in each), ways_to(tree, 0))

    def test_numbers_go_by_weights(self):
        number = 0
        for filling in by_hand.fillings(WRITTEN):
            self.assertEqual(number_of(WRITTEN, filling), number)
            worth = worth_of("sum", WRITTEN, filling)
            for at in {number, number + worth - 1} if worth else ():
                self.assertEqual(filling_at(WRITTEN, at), filling)
            number += worth
        self.assertEqual(number, whole("sum", WRITTEN))
        for name, size in enumerate(WRITTEN[0]):
            part = rest("sum", WRITTEN, (name,))
            for worth in range(size):
                top, bottom = share_of(WRITTEN, name, worth)
                self.assertEqual(top * number, part[1][worth] * bottom)

    def test_read_back(self):
        self.assertEqual(read_sheet(sheet_text(WRITTEN)), WRITTEN)


def askings(sheet, tree):
    """Each function with what is handed to it, tuples in tuples, lists where lists are handed in."""
    sizes, parts = sheet
    told = letters("most", sheet, tree)
    offers = [letter for letter in told if letter[:2] in ways_to(tree, 0)]
    order = tuple(range(len(sizes)))
    return [
        (is_sheet, sheet), (is_part, sizes, parts[0]), (worth_of, "sum", sheet, (0,) * len(sizes)),
        (joined, "sum", sizes, parts[0], parts[1]), (gathered, "most", sizes, parts[0], 0), (settled, sizes, parts[0], 1, 2),
        (widened, sizes, parts[0], (2, 3)), (rest, "wide", sheet, (0, 2)), (taken_out, "least", sheet, order),
        (whole_by, "sum", sheet, order), (bags_of, sheet, order), (least_room, sheet),
        (are_floors, sheet, least_room(sheet)[2], least_room(sheet)[0]), (is_bag_tree, sheet, tree),
        (letters, "most", sheet, tree), (are_letters, "most", sheet, tree, told), (bag_rest, "sum", sheet, tree, 1),
        (best, "least", sheet), (how_many_best, "wide", sheet), (bound_by, "most", sheet, tree, offers),
        (rounds, tree), (rounds_to, tree, 2), (filling_at, sheet, 5), (number_of, sheet, (0,) * len(sizes)),
        (share_of, sheet, 1, 2), (sheet_text, sheet), (read_sheet, sheet_text(sheet)),
    ]


class HandedIn(Case):
    def test_it_stays_as_it_was_and_nothing_hangs_on_what_was_asked_ahead(self):
        rows = askings(WRITTEN, bag_tree(WRITTEN, (4, 2, 0, 1, 3)))
        first = [repr(self.asked(*row)) for row in rows]
        for row, told in list(zip(rows, first))[::-1]:
            self.assertEqual(repr(self.asked(*row)), told)

    def test_lists_are_new_and_the_asker_s_own(self):
        for function, *handed in askings(WRITTEN, bag_tree(WRITTEN, (4, 2, 0, 1, 3))):
            told = function(*handed)
            expected = repr(told)
            for each in [told] + list(told if isinstance(told, (list, tuple)) else ()):
                if isinstance(each, list):
                    each.append("the asker's own")
                    each.reverse()
            self.assertEqual(repr(function(*handed)), expected)


if __name__ == "__main__":
    unittest.main()
