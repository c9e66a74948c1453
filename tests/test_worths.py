"""Tests of worth_of: a filling's worth by each word, and what is refused as no filling."""

import unittest
from copy import deepcopy
from itertools import permutations

import by_hand
from by_hand import OF_NOTHING, WORDS, fillings
from sumorder.errors import NoFilling
from sumorder.sheets import worth_of
from things import any_things, nested

SHEETS = (
    ((2, 3), (((0, 1), (1, 2, 3, 4, 5, -6)), ((), (7,)))),
    ((2, 3, 4), (((0, 2), tuple(range(-3, 5))), ((1,), (9, 0, -9)), ((0,), (3, 4)))),
    ((3, 1, 2), (((0, 1, 2), (5, 7, 11, 13, 17, 19)), ((1,), (-2,)), ((1, 2), (3, -4)))),
    ((4, 2, 3), (((0, 1, 2), tuple(range(1, 25))), ((1, 2), (6, 5, 4, 3, 2, 1)))),
    ((1,), (((0,), (-10 ** 12,)), ((), (10 ** 12,)))),
    ((2,) * 12, (((0, 11), (1, 2, 3, 4)), ((3, 5, 7), tuple(range(10, 18))))),
)
# By "any" parts have the worths 0 and 1 alone.
TRUE_SHEETS = (
    ((2, 3), (((0, 1), (1, 0, 1, 0, 1, 1)), ((1,), (1, 1, 0)))),
    ((2, 2), (((0,), (0, 1)), ((1,), (1, 0)), ((), (1,)))),
    ((2, 2), (((0,), (1, 1)), ((), (0,)))),
)


class Worths(unittest.TestCase):
    def test_each_word_of_the_written_sheet(self):
        sheet = SHEETS[0]
        told = [[worth_of(word, sheet, filling) for filling in fillings(sheet)]
                for word in ("sum", "most", "least", "wide")]
        self.assertEqual(told, [
            [7, 14, 21, 28, 35, -42],
            [8, 9, 10, 11, 12, 1],
            [8, 9, 10, 11, 12, 1],
            [1, 2, 3, 4, 5, -6],
        ])

    def test_any(self):
        told = [[worth_of("any", sheet, filling) for filling in fillings(sheet)]
                for sheet in TRUE_SHEETS]
        self.assertEqual(told, [[1, 0, 0, 0, 1, 0], [0, 0, 1, 0], [0, 0, 0, 0]])

    def test_all_fillings_as_reckoned_by_hand(self):
        for word in WORDS:
            for sheet in TRUE_SHEETS + (() if word == "any" else SHEETS):
                for filling in fillings(sheet):
                    self.assertEqual(worth_of(word, sheet, filling), by_hand.worth(word, sheet, filling))

    def test_parts_that_have_some_of_the_names(self):
        sheet = ((2, 3, 4), (((0, 2), (10, 11, 12, 13, 20, 21, 22, 23)), ((1,), (1, 2, 3))))
        self.assertEqual(worth_of("most", sheet, (1, 0, 2)), 23)
        self.assertEqual(worth_of("most", sheet, (1, 2, 2)), 25)
        self.assertEqual(worth_of("sum", sheet, (0, 1, 3)), 26)
        self.assertEqual(worth_of("wide", sheet, (0, 1, 3)), 2)
        self.assertEqual(worth_of("least", sheet, (1, 1, 0)), 22)

    def test_the_last_name_changes_first(self):
        sheet = ((2, 3, 2), (((0, 1, 2), tuple(range(12))),))
        for at, filling in enumerate(sorted(fillings(sheet))):
            self.assertEqual(worth_of("most", sheet, filling), at)

    def test_one_part_has_its_own_worth(self):
        for word in ("sum", "most", "least", "wide"):
            for worth in (0, 1, -1, 10 ** 12, -10 ** 12):
                self.assertEqual(worth_of(word, ((2,), (((), (worth,)),)), (1,)), worth)

    def test_like_parts_are_all_joined(self):
        part = ((0,), (2, 3))
        self.assertEqual(worth_of("sum", ((2,), (part,) * 24), (1,)), 3 ** 24)
        self.assertEqual(worth_of("most", ((2,), (part,) * 24), (1,)), 72)
        self.assertEqual(worth_of("wide", ((2,), (part,) * 24), (0,)), 2)

    def test_great_numbers(self):
        sheet = ((1,), (((), (10 ** 12,)),) * 23 + (((), (-10 ** 12,)),))
        self.assertEqual(worth_of("sum", sheet, (0,)), -10 ** 288)
        self.assertEqual(worth_of("least", sheet, (0,)), 22 * 10 ** 12)

    def test_worths_greater_than_a_sheet_of_its_own_has(self):
        sheet = ((2,), (((0,), (10 ** 40, 10 ** 30)), ((), (10 ** 29,))))
        self.assertEqual(worth_of("sum", sheet, (0,)), 10 ** 69)
        self.assertEqual(worth_of("most", sheet, (0,)), 10 ** 40 + 10 ** 29)
        self.assertEqual(worth_of("wide", sheet, (1,)), 10 ** 29)

    def test_without_parts(self):
        for word in WORDS:
            for sizes in ((1,), (2, 3), (1,) * 12):
                told = worth_of(word, (sizes, ()), (0,) * len(sizes))
                self.assertEqual(told, OF_NOTHING[word])

    def test_the_order_of_the_parts_makes_no_difference(self):
        for word in WORDS:
            for sizes, parts in TRUE_SHEETS + (() if word == "any" else SHEETS[:4]):
                for filling in fillings((sizes, parts)):
                    told = {worth_of(word, (sizes, tuple(order)), filling)
                            for order in permutations(parts)}
                    self.assertEqual(len(told), 1)

    def test_it_is_a_whole_number(self):
        for word in WORDS:
            for sheet in TRUE_SHEETS + (((2,), ()),):
                told = worth_of(word, sheet, (1,) * len(sheet[0]))
                self.assertIs(type(told), int)

    def test_nothing_hangs_on_what_was_asked_ahead(self):
        one, other = ((2,), (((0,), (3, 4)), ((), (5,)))), ((2,), (((0,), (6, 7)), ((), (8,))))
        for _ in range(3):
            self.assertEqual(worth_of("sum", one, (0,)), 15)
            self.assertEqual(worth_of("most", one, (0,)), 8)
            self.assertEqual(worth_of("sum", other, (0,)), 48)
            self.assertEqual(worth_of("sum", one, (1,)), 20)


class Refused(unittest.TestCase):
    def refused(self, sheet, thing):
        """NoFilling by each word, whichever parts there are, and nothing is changed."""
        before = deepcopy(thing)
        for word in WORDS:
            with self.assertRaises(NoFilling, msg=repr(thing)[:200]) as told:
                worth_of(word, sheet, thing)
            self.assertIs(type(told.exception), NoFilling)
        self.assertEqual(repr(thing), repr(before))

    def sheets_of(self, sizes):
        """Sheets without parts, without names in parts, and with all names in one."""
        many = len(list(fillings((sizes, ()))))
        everything = (tuple(range(len(sizes))), (1,) * many)
        return ((sizes, ()), (sizes, (((), (1,)),)), (sizes, (((0,), (1,) * sizes[0]), everything)))

    def test_too_long_or_too_short(self):
        for sizes in ((2,), (2, 3), (2, 3, 4)):
            for sheet in self.sheets_of(sizes):
                right = (0,) * len(sizes)
                worth_of("sum", sheet, right)
                for wrong in ((), right[1:], right + (0,), right * 2, (0,) * 39999):
                    self.refused(sheet, wrong)

    def test_beyond_the_size_or_below_0(self):
        for sizes in ((1,), (4,), (2, 3), (2, 3, 4), (1, 1, 2)):
            for sheet in self.sheets_of(sizes):
                for name, size in enumerate(sizes):
                    right = [0] * len(sizes)
                    for worth in range(size):
                        right[name] = worth
                        self.assertEqual(worth_of("any", sheet, tuple(right)), 1)
                    for worth in (size, size + 1, -1, -size, 10 ** 39, -10 ** 39):
                        right[name] = worth
                        self.refused(sheet, tuple(right))

    def test_worths_that_are_no_whole_numbers(self):
        for sheet in self.sheets_of((2, 3)):
            for worth in (True, False, None, "", "0", "1", (), (0,), [], [0], nested(25, 0)):
                for wrong in ((worth, 0), (0, worth), (worth, worth)):
                    self.refused(sheet, wrong)

    def test_lists_for_the_tuple(self):
        for sheet in self.sheets_of((2, 3)):
            for wrong in ([0, 0], [1, 2], [(0, 0)], ((0, 0),), ([0, 0],)):
                self.refused(sheet, wrong)
        for sheet in self.sheets_of((2,)):
            for wrong in ([0], [1], "0", "1", 0, 1, True, ((0,),)):
                self.refused(sheet, wrong)

    def test_any_other_thing(self):
        for sheet in self.sheets_of((2, 3)):
            for thing in any_things():
                self.refused(sheet, thing)
                self.refused(sheet, (thing, 0, 0))
                self.refused(sheet, [thing])

    def test_any_other_thing_for_a_worth(self):
        whole = (0, 1, 2)
        things = [thing for thing in any_things() if type(thing) is not int or thing not in whole]
        for sheet in self.sheets_of((2, 3)):
            for thing in things:
                self.refused(sheet, (thing, 0))
                self.refused(sheet, (0, thing))

    def test_after_a_refusal_the_right_one_is_told(self):
        sheet = ((2, 3), (((0, 1), (1, 2, 3, 4, 5, 6)),))
        self.refused(sheet, (2, 0))
        self.assertEqual(worth_of("sum", sheet, (1, 0)), 4)


if __name__ == "__main__":
    unittest.main()
