"""Tests of is_sheet and is_part: what a sheet is, what a part is, and what is neither."""

import unittest
from copy import deepcopy

from sumorder.sheets import is_part, is_sheet
from things import any_things, nested, nested_pairs

LIMIT = 10 ** 12
NOT_WHOLE = (
    None, True, False, "", "0", "1", "2", (), (0,), (1,), [], [0], [1], [2], ((),), ([],),
    nested(20, 1), nested(20, 1, True), nested_pairs(15, 0),
)


def part_of(sizes, names, worth=1):
    """A part with these names that is worth the same everywhere."""
    many = 1
    for name in names:
        many *= sizes[name]
    return (names, (worth,) * many)


class Told(unittest.TestCase):
    """Answers are True or False itself, and what is handed in stays as it was."""

    def sheet(self, told, thing):
        before = deepcopy(thing)
        self.assertIs(is_sheet(thing), told, repr(thing)[:200])
        self.assertEqual(repr(thing), repr(before))
        self.assertIs(is_sheet(thing), told)

    def part(self, told, sizes, thing):
        before = deepcopy(thing)
        self.assertIs(is_part(sizes, thing), told, repr(thing)[:200])
        self.assertEqual(repr(thing), repr(before))
        self.assertIs(is_part(sizes, thing), told)

    def both(self, told, sizes, thing):
        """Of a right number of worths a part alone, and a part within a sheet, are told alike."""
        self.part(told, sizes, thing)
        self.sheet(told, (sizes, (thing,)))
        self.sheet(told, (sizes, (((), (1,)), thing)))
        self.sheet(told, (sizes, (thing, ((), (1,)))))


class RightSheets(Told):
    def test_the_written_one(self):
        self.sheet(True, ((2, 3), (((0, 1), (1, 2, 3, 4, 5, -6)), ((), (7,)))))

    def test_without_parts(self):
        self.sheet(True, ((1,), ()))
        self.sheet(True, ((2, 3, 4), ()))

    def test_parts_without_names(self):
        self.sheet(True, ((2,), (((), (0,)),)))
        self.sheet(True, ((2,), (((), (-5,)), ((), (6,)), ((), (6,)))))

    def test_parts_with_the_same_names_and_in_any_order(self):
        one, other = ((1,), (1, 2, 3)), ((0,), (4, 5))
        for parts in ((one, other), (other, one), (one, one), (one, other, one)):
            self.sheet(True, ((2, 3), parts))

    def test_names_that_no_part_has(self):
        self.sheet(True, ((2, 3, 4), (((1,), (1, 2, 3)),)))

    def test_names_apart(self):
        self.sheet(True, ((2, 3, 4), (((0, 2), tuple(range(8))),)))


class SizesAtTheirEdges(Told):
    def test_how_many_names(self):
        for many in (1, 2, 11, 12):
            self.sheet(True, ((1,) * many, ()))
        for many in (0, 13, 14, 40, 30000):
            self.sheet(False, ((1,) * many, ()))

    def test_parts_do_not_mend_the_lack_of_names(self):
        self.sheet(False, ((), (((), (1,)),)))

    def test_each_size(self):
        for size in (1, 2, 3, 4):
            for sizes in ((size,), (size, 2), (2, size)):
                self.sheet(True, (sizes, ()))
        for size in (0, 5, 6, -1, -4, 10 ** 39, -10 ** 39):
            for sizes in ((size,), (size, 2), (2, size), (2, size, 2)):
                self.sheet(False, (sizes, ()))

    def test_the_fillings_in_all(self):
        # Between these two there is no product of sizes, and four thousand is.
        most, beyond = (4, 4, 3, 3, 3, 3, 3), (4,) * 6
        self.sheet(True, (most, ()))
        self.sheet(True, (most + (1,) * 5, ()))
        self.sheet(True, (most[::-1], (((0,), (1, 2, 3)),)))
        self.sheet(False, (beyond, ()))
        self.sheet(False, (beyond + (1,) * 6, ()))
        self.sheet(False, ((2,) * 12, ()))
        self.sheet(False, ((4,) * 12, ()))
        self.sheet(True, ((2,) * 11, ()))

    def test_sizes_that_are_no_whole_numbers(self):
        for size in NOT_WHOLE:
            for sizes in ((size,), (size, 2), (2, size)):
                self.sheet(False, (sizes, ()))
                self.sheet(False, (sizes, (((), (1,)),)))

    def test_a_truth_is_no_size_though_its_worths_would_fit(self):
        self.sheet(False, ((True, 2), (((0,), (1,)),)))
        self.sheet(False, ((2, True), (((0,), (1, 2)),)))

    def test_sizes_of_another_kind(self):
        for sizes in ([2], [2, 3], [], "2", "23", "", 2, None, True, [[2]], ((2,),), ([2],)):
            self.sheet(False, (sizes, ()))


class PartsAtTheirEdges(Told):
    def test_how_many_parts(self):
        part = ((0,), (1, 2))
        for many in (0, 1, 23, 24):
            self.sheet(True, ((2,), (part,) * many))
            self.sheet(True, ((2,), (((), (1,)),) * many))
        for many in (25, 26, 48, 5000):
            self.sheet(False, ((2,), (part,) * many))
            self.sheet(False, ((2,), (((), (1,)),) * many))

    def test_the_worths_in_all(self):
        sizes = (4, 4, 4, 3, 3, 3)
        large = part_of(sizes, (0, 1, 2, 3, 4, 5))
        parts = (large,) + (part_of(sizes, (0, 1, 2)),) * 4 + (part_of(sizes, (0, 1)),)
        self.assertEqual(sum(len(worths) for names, worths in parts), 2000)
        self.sheet(True, (sizes, parts))
        self.sheet(True, (sizes, parts[::-1]))
        self.sheet(False, (sizes, parts + (((), (1,)),)))
        self.sheet(False, (sizes, (((), (1,)),) + parts))
        self.sheet(True, (sizes, (large,)))
        self.sheet(False, (sizes, (large, large)))

    def test_one_part_may_have_more_worths_than_a_sheet(self):
        sizes = (4, 4, 4, 4, 4, 2)
        part = part_of(sizes, (0, 1, 2, 3, 4, 5))
        self.part(True, sizes, part)
        self.sheet(False, (sizes, (part,)))
        greatest = (4, 4, 3, 3, 3, 3, 3)
        self.part(True, greatest, part_of(greatest, tuple(range(7))))

    def test_parts_of_another_kind(self):
        part = ((0,), (1, 2))
        for parts in ([], [part], part, "", "ab", None, 0, True, (None,), ([],), ("",), (0,),
                      ((),), (part, None), (None, part), (part, list(part)), ((part,),), {}):
            self.sheet(False, ((2,), parts))

    def test_a_part_beyond_the_first_is_judged_too(self):
        part = ((0,), (1, 2))
        for wrong in (((0,), (1,)), ((1,), (1, 2)), ((0,), (1, LIMIT + 1)), ((0,), [1, 2])):
            for at in (0, 11, 23):
                parts = (part,) * at + (wrong,) + (part,) * (23 - at)
                self.sheet(False, ((2,), parts))


class RightParts(Told):
    def test_without_names_it_has_one_worth(self):
        for sizes in ((1,), (2,), (2, 3, 4)):
            self.both(True, sizes, ((), (5,)))
            self.both(False, sizes, ((), ()))
            self.both(False, sizes, ((), (5, 5)))

    def test_names_rising(self):
        sizes = (2, 3, 4)
        for names in ((0,), (1,), (2,), (0, 1), (0, 2), (1, 2), (0, 1, 2)):
            self.both(True, sizes, part_of(sizes, names))

    def test_names_of_size_one(self):
        self.both(True, (1, 1), ((0, 1), (5,)))
        self.both(True, (1, 2), ((0, 1), (5, 6)))
        self.both(False, (1, 2), ((0,), (5, 6)))

    def test_all_twelve_names(self):
        sizes = (2,) * 10 + (1, 1)
        self.both(True, sizes, part_of(sizes, tuple(range(12))))


class NamesOfParts(Told):
    def test_not_rising(self):
        for names in ((1, 0), (2, 1, 0), (0, 2, 1), (1, 0, 2), (2, 0)):
            self.both(False, (2, 2, 2), part_of((2, 2, 2), names))

    def test_standing_twice(self):
        for names in ((0, 0), (1, 1), (0, 0, 1), (0, 1, 1), (0, 1, 0)):
            self.both(False, (2, 2, 2), part_of((2, 2, 2), names))
        self.both(False, (2, 2), ((0, 0), (1, 2)))
        self.both(False, (1, 1), ((0, 0), (1,)))

    def test_that_there_are_not(self):
        for name in (2, 3, 12, -1, -2, -3, 10 ** 39, -10 ** 39):
            for names in ((name,), (0, name), (name, 0), (name, 1)):
                for many in (1, 2, 4):
                    self.both(False, (2, 2), (names, (1,) * many))

    def test_that_are_no_whole_numbers(self):
        for name in NOT_WHOLE:
            for names in ((name,), (0, name), (name, 1)):
                for many in (1, 2, 4):
                    self.both(False, (2, 2), (names, (1,) * many))

    def test_truths_are_no_names_though_they_would_rise(self):
        self.both(False, (2, 3), ((False,), (1, 2)))
        self.both(False, (2, 3), ((True,), (1, 2, 3)))
        self.both(False, (2, 3), ((False, True), (1, 2, 3, 4, 5, 6)))
        self.both(False, (2, 3), ((0, True), (1, 2, 3, 4, 5, 6)))

    def test_of_another_kind(self):
        for names in ([], [0], [0, 1], "", "0", "01", None, 0, 1, True, False):
            for many in (1, 2, 4):
                self.both(False, (2, 2), (names, (1,) * many))

    def test_many_of_them(self):
        for names in ((0,) * 30000, tuple(range(30000)), (None,) * 30000):
            self.both(False, (1, 2), (names, (1,)))


class WorthsOfParts(Told):
    def test_one_too_many_or_too_few(self):
        sizes = (2, 3, 4)
        for names in ((), (0,), (1,), (0, 1), (0, 2), (1, 2), (0, 1, 2)):
            worths = part_of(sizes, names)[1]
            self.both(False, sizes, (names, worths + (1,)))
            self.both(False, sizes, (names, worths[1:]))
            self.both(False, sizes, (names, worths * 2))
            self.both(False, sizes, (names, ()))

    def test_many_of_them(self):
        self.both(False, (2,), ((0,), (1,) * 39000))

    def test_at_their_edges(self):
        for worth in (0, 1, -1, LIMIT - 1, LIMIT, 1 - LIMIT, -LIMIT):
            self.both(True, (2,), ((), (worth,)))
            self.both(True, (2,), ((0,), (worth, 0)))
            self.both(True, (2,), ((0,), (0, worth)))
        for worth in (LIMIT + 1, -LIMIT - 1, 2 * LIMIT, -2 * LIMIT, 10 ** 39, -10 ** 39):
            self.both(False, (2,), ((), (worth,)))
            self.both(False, (2,), ((0,), (worth, 0)))
            self.both(False, (2,), ((0,), (0, worth)))

    def test_that_are_no_whole_numbers(self):
        for worth in NOT_WHOLE:
            self.both(False, (2,), ((), (worth,)))
            self.both(False, (2,), ((0,), (worth, 0)))
            self.both(False, (2,), ((0,), (0, worth)))

    def test_of_another_kind(self):
        for worths in ([1, 2], [], "12", "", None, 0, 2, True, ([1, 2],), ((1, 2),)):
            self.both(False, (2,), ((0,), worths))
        for worths in ([1], "1", None, 1, True, ([1],), ((1,),)):
            self.both(False, (2,), ((), worths))


class OtherThings(Told):
    def test_no_sheet(self):
        for thing in any_things():
            self.sheet(False, thing)

    def test_no_part(self):
        for sizes in ((1,), (2, 2), (2, 3, 4)):
            for thing in any_things():
                self.part(False, sizes, thing)
                self.sheet(False, (sizes, (thing,)))

    def test_things_within_a_sheet(self):
        for thing in any_things():
            self.sheet(False, (thing, ()))
            self.sheet(False, ((2, 2), (((0,), (1, 2)), thing)))
            self.sheet(False, (((2,), ()), thing))

    def test_things_within_a_part(self):
        for thing in any_things():
            self.part(False, (2, 3), (thing, (1, 2)))
            self.part(False, (2, 3), ((0, 1), thing))
            self.part(False, (2, 3), ((thing,), (1, 2, 3, 4, 5, 6)))

    def test_tuples_of_other_lengths(self):
        sizes, part = (2, 3), ((0,), (1, 2))
        for sheet in ((), (sizes,), (sizes, (part,), ()), (sizes, (part,), None), (sizes,) * 2):
            self.sheet(False, sheet)
        for wrong in ((), ((0,),), ((0,), (1, 2), ()), ((0,), (1, 2), None), ((0,), 1, 2)):
            self.both(False, sizes, wrong)

    def test_lists_for_tuples(self):
        self.sheet(False, [(2,), ()])
        self.sheet(False, ([2], ()))
        self.sheet(False, ((2,), []))
        self.sheet(False, ((2,), [((0,), (1, 2))]))
        self.both(False, (2,), [(0,), (1, 2)])
        self.both(False, (2,), ([0], (1, 2)))
        self.both(False, (2,), ((0,), [1, 2]))

    def test_a_part_is_no_sheet_and_a_sheet_no_part(self):
        self.sheet(False, ((0, 1), (1, 2, 3, 4)))
        self.part(False, (2, 2), ((2, 2), ()))

    def test_far_within_one_another(self):
        right = ((2,), (((0,), (1, 2)),))
        for depth in (1, 2, 10, 20):
            for as_list in (False, True):
                self.sheet(False, nested(depth, right, as_list))
                self.sheet(False, ((2,), nested(depth, right[1], as_list)))
                self.part(False, (2,), nested(depth, right[1][0], as_list))

    def test_nothing_hangs_on_what_was_asked_ahead(self):
        right, wrong = ((2, 3), (((0,), (1, 2)),)), ((2, 3), (((1,), (1, 2)),))
        for _ in range(3):
            self.sheet(True, right)
            self.sheet(False, wrong)
            self.part(True, (2, 3), ((0,), (1, 2)))
            self.part(False, (3, 2), ((0,), (1, 2)))


if __name__ == "__main__":
    unittest.main()
