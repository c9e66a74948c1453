"""Tests of sumorder.fresh: orders that tie none anew, or rings that show that there is none."""

import unittest
from itertools import permutations
from random import Random

from shapes import (
    all_pairings, all_tied, drawn_groups, grown, is_fresh, is_ring_alone, none_tied, ring, row, shapes, sheet_of,
    star,
)
from sumorder.fresh import is_no_new, no_new_ties
from sumorder.orders import room_of
from things import Case, any_things, no_order

CROSSED = sheet_of((2,) * 4, [(0, 1), (1, 2), (2, 3), (0, 3), (0, 2)])
# Two rings of four with a side in common, and a name apart.
DOUBLE = sheet_of((2,) * 7, [(0, 1), (1, 2), (2, 3), (0, 3), (2, 4), (4, 5), (3, 5)])


class NoNewTies(Case):
    def held(self, sheet):
        """What is told is right by the document's sentence; its word."""
        told = self.asked(no_new_ties, sheet)
        self.assertIs(type(told), tuple)
        word, names = told
        self.assertIs(type(names), tuple)
        self.assertTrue(all(type(name) is int for name in names))
        self.assertEqual(len(set(names)), len(names))
        self.assertLessEqual(set(names), set(range(len(sheet[0]))))
        if word == "order":
            self.assertEqual(len(names), len(sheet[0]))
            self.assertTrue(is_fresh(sheet, names))
        else:
            self.assertEqual(word, "ring")
            self.assertTrue(is_ring_alone(sheet, names))
        self.told(True, is_no_new, sheet, told)
        return word

    def test_rings(self):
        for many in range(4, 13):
            self.assertEqual(self.held(ring(many)), "ring")
            self.assertEqual(sorted(no_new_ties(ring(many))[1]), list(range(many)))
        self.assertEqual(self.held(ring(3)), "order")

    def test_a_ring_with_a_tie_across(self):
        self.assertEqual(self.held(CROSSED), "order")
        for many in range(5, 13):
            sides = [(at, (at + 1) % many) for at in range(many)]
            for other in range(2, many - 1):
                self.assertEqual(self.held(sheet_of((1,) * many, sides + [(0, other)])), "ring")
            fan = [(0, other) for other in range(2, many - 1)]
            self.assertEqual(self.held(sheet_of((1,) * many, sides + fan)), "order")
            self.assertEqual(self.held(sheet_of((1,) * many, sides + fan[1:])), "ring")

    def test_rings_by_parts_of_three_names(self):
        self.assertEqual(self.held(sheet_of((2,) * 3, [(0, 1), (1, 2), (0, 2)])), "order")
        self.assertEqual(self.held(sheet_of((2,) * 8, [(0, 1, 4), (1, 2, 5), (2, 3, 6), (0, 3, 7)])), "ring")
        self.assertEqual(self.held(sheet_of((2,) * 8, [(0, 1, 2, 3), (0, 1, 4), (1, 2, 5), (2, 3, 6)])), "order")

    def test_orders(self):
        draw = Random(61)
        for many in range(1, 13):
            for sheet in (row(many), star(many), all_tied(many), none_tied(many), ((1,) * many, ())):
                self.assertEqual(self.held(sheet), "order")
            for _ in range(8):
                self.assertEqual(self.held(grown(draw, many)), "order")

    def test_two_rings(self):
        self.assertEqual(self.held(DOUBLE), "ring")
        apart = sheet_of((2,) * 8, [(0, 2), (2, 4), (4, 6), (0, 6), (1, 3), (3, 5), (1, 5)])
        self.assertEqual(self.held(apart), "ring")

    def test_all_ways_to_tie_up_to_five_names(self):
        for many in (1, 2, 3, 4, 5):
            words = [self.held(sheet) for sheet in all_pairings(many)]
            # So many ways to tie four and five names have such an order.
            self.assertEqual(words.count("order"), {1: 1, 2: 2, 3: 8, 4: 61, 5: 822}[many])

    def test_drawn_ones_of_up_to_twelve_names(self):
        draw = Random(62)
        words = []
        for sheet in shapes(12, 3):
            words.append(self.held(sheet))
        for _ in range(100):
            many = draw.randint(6, 12)
            words.append(self.held(drawn_groups(draw, many, draw.randint(many // 2, 2 * many))))
        self.assertGreater(words.count("order"), 20)
        self.assertGreater(words.count("ring"), 20)

    def test_the_order_may_be_handed_to_others(self):
        for sheet in (row(5), CROSSED, all_tied(4)):
            word, order = no_new_ties(sheet)
            self.assertGreaterEqual(room_of(sheet, order), 1)


class IsNoNew(Case):
    def test_each_order_and_each_ring(self):
        for sheet in (ring(4), ring(5), row(4), star(5), CROSSED, all_tied(4), none_tied(4), ring(3), ((2,), ())):
            many = len(sheet[0])
            for size in range(many + 1):
                for names in permutations(range(many), size):
                    fresh = size == many and is_fresh(sheet, names)
                    self.told(fresh, is_no_new, sheet, ("order", names))
                    self.told(is_ring_alone(sheet, names), is_no_new, sheet, ("ring", names))

    def test_drawn_rings_in_larger_sheets(self):
        draw = Random(63)
        answers = []
        for names in permutations(range(7), 4):
            answers.append(is_ring_alone(DOUBLE, names))
            self.told(answers[-1], is_no_new, DOUBLE, ("ring", names))
        self.assertEqual(answers.count(True), 16)
        for _ in range(200):
            names = tuple(draw.sample(range(7), draw.randint(4, 7)))
            self.told(is_ring_alone(DOUBLE, names), is_no_new, DOUBLE, ("ring", names))
        # Around both rings there is a tie across.
        self.told(False, is_no_new, DOUBLE, ("ring", (0, 1, 2, 4, 5, 3)))

    def test_rings_of_three(self):
        for sheet in (ring(3), all_tied(4), CROSSED):
            for names in permutations(range(3)):
                self.told(False, is_no_new, sheet, ("ring", names))

    def test_the_words_exchanged(self):
        self.told(False, is_no_new, row(4), ("ring", no_new_ties(row(4))[1]))
        self.told(False, is_no_new, ring(4), ("order", no_new_ties(ring(4))[1]))
        for sheet in (row(4), ring(4)):
            names = no_new_ties(sheet)[1]
            for word in ("", "Order", "orders", "rings", "Ring", "sum", None, True, 0, 1, (), [], ["order"], ("ring",)):
                self.told(False, is_no_new, sheet, (word, names))
                self.told(False, is_no_new, sheet, (names, word))

    def test_names_left_out_or_twice(self):
        for sheet in (row(4), ring(5), star(6)):
            word, names = no_new_ties(sheet)
            for at in range(len(names)):
                self.told(False, is_no_new, sheet, (word, names[:at] + names[at + 1:]))
                self.told(False, is_no_new, sheet, (word, names[:at] + names[at:at + 1] + names[at:]))
                self.told(False, is_no_new, sheet, (word, names[:at] + (names[at - 1],) + names[at + 1:]))

    def test_other_kinds(self):
        for sheet in (row(4), ring(4), none_tied(2)):
            word, names = no_new_ties(sheet)
            for thing in (
                [word, names], (word, list(names)), (word,), (names,), names, word, (word, names, names),
                (word, *names), (word, (names,)), ((word, names),), [(word, names)], (word, tuple(map(str, names))),
                (word, tuple(name if name > 1 else bool(name) for name in names)), (names, word), (word, None),
            ):
                self.told(False, is_no_new, sheet, thing)

    def test_any_other_thing(self):
        for sheet in (row(4), ring(4), ((2,), ())):
            for thing in any_things():
                self.told(False, is_no_new, sheet, thing)
                self.told(False, is_no_new, sheet, (thing, no_new_ties(sheet)[1]))
            for thing in no_order(len(sheet[0])):
                self.told(False, is_no_new, sheet, ("order", thing))
                self.told(False, is_no_new, sheet, ("ring", thing))


if __name__ == "__main__":
    unittest.main()
