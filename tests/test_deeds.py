"""Tests of sumorder.deeds: what joins and what gathers, by the five words."""

import unittest
from itertools import permutations

from by_hand import WORDS
from sumorder.deeds import gathered_worths, joined_worths


class Joined(unittest.TestCase):
    def test_several_worths(self):
        worths = [2, -3, 5, 7]
        self.assertEqual(joined_worths("sum", worths), -210)
        self.assertEqual(joined_worths("most", worths), 11)
        self.assertEqual(joined_worths("least", worths), 11)
        self.assertEqual(joined_worths("wide", worths), -3)

    def test_any_joins_by_the_least(self):
        for worths, told in (([0], 0), ([1], 1), ([0, 1], 0), ([1, 1], 1), ([0, 0], 0)):
            with self.subTest(worths):
                self.assertEqual(joined_worths("any", worths), told)

    def test_nothing_joined(self):
        told = {word: joined_worths(word, []) for word in WORDS}
        self.assertEqual(told, {"sum": 1, "most": 0, "least": 0, "wide": 10 ** 30, "any": 1})

    def test_one_worth_is_itself(self):
        for word in WORDS:
            for worth in (0, 1):
                with self.subTest(word, worth=worth):
                    self.assertEqual(joined_worths(word, [worth]), worth)
        for word in ("sum", "most", "least", "wide"):
            for worth in (-7, 12, 10 ** 12, -10 ** 12, 10 ** 30):
                with self.subTest(word, worth=worth):
                    self.assertEqual(joined_worths(word, [worth]), worth)

    def test_nothing_joined_changes_nothing_it_is_joined_to(self):
        for word in WORDS:
            for worth in (0, 1):
                with self.subTest(word, worth=worth):
                    self.assertEqual(joined_worths(word, [worth, joined_worths(word, [])]), worth)


class Gathered(unittest.TestCase):
    def test_several_worths(self):
        worths = [2, -3, 5, 7]
        self.assertEqual(gathered_worths("sum", worths), 11)
        self.assertEqual(gathered_worths("most", worths), 7)
        self.assertEqual(gathered_worths("least", worths), -3)
        self.assertEqual(gathered_worths("wide", worths), 7)

    def test_any_gathers_by_the_greatest(self):
        for worths, told in (([0], 0), ([1], 1), ([0, 1], 1), ([1, 1], 1), ([0, 0], 0)):
            with self.subTest(worths):
                self.assertEqual(gathered_worths("any", worths), told)


class Orders(unittest.TestCase):
    def test_the_order_makes_no_difference(self):
        for word in WORDS:
            worths = [0, 1, 1, 0] if word == "any" else [4, -1, 3, 0]
            joined = {joined_worths(word, list(order)) for order in permutations(worths)}
            gathered = {gathered_worths(word, list(order)) for order in permutations(worths)}
            with self.subTest(word):
                self.assertEqual((len(joined), len(gathered)), (1, 1))

    def test_what_is_handed_in_stays(self):
        for word in WORDS:
            worths = [1, 0, 1]
            joined_worths(word, worths)
            gathered_worths(word, worths)
            self.assertEqual(worths, [1, 0, 1])


if __name__ == "__main__":
    unittest.main()
