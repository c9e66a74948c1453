"""Tests of sumorder.joins: parts joined, gathered, settled and widened, and what is refused."""

import unittest
from itertools import combinations, permutations
from random import Random

from by_hand import (
    OF_NOTHING, WORDS, drawn_part, fillings, gather, join, part_of, tuples, worth_in,
)
from sumorder.errors import NoFilling, NoName
from sumorder.joins import gathered, joined, settled, widened
from sumorder.sheets import is_part, worth_of
from things import Case, any_things, no_name, no_names

SIZES = (2, 3, 1, 4, 2)
# None, one and several names; the same, none in common, those of the one between the other's.
NAMES = ((), (0,), (1,), (2,), (4,), (0, 1), (1, 3), (2, 3), (0, 4), (1, 2, 3), (0, 2, 4), (0, 1, 2, 3, 4))


def subsets(many):
    """All rising tuples of so many names."""
    return [names for size in range(many + 1) for names in combinations(range(many), size)]


def joined_by_hand(word, sizes, one, other):
    """The two parts joined, worth by worth."""
    names = tuple(sorted(set(one[0] + other[0])))
    readers = [worth_in(sizes, one), worth_in(sizes, other)]
    return part_of(sizes, names, lambda at: join(word, [reader(at) for reader in readers]))


def gathered_by_hand(word, sizes, part, name):
    """The part gathered over the name, worth by worth."""
    names = tuple(other for other in part[0] if other != name)
    reader = worth_in(sizes, part)
    return part_of(sizes, names, lambda at: gather(
        word, [reader({**at, name: worth}) for worth in range(sizes[name])]))


class Joined(Case):
    def test_two_parts_of_any_names(self):
        draw = Random(1)
        for word in WORDS:
            for names in NAMES:
                for others in NAMES:
                    one, other = drawn_part(draw, word, SIZES, names), drawn_part(draw, word, SIZES, others)
                    expected = joined_by_hand(word, SIZES, one, other)
                    self.told(expected, joined, word, SIZES, one, other)
                    self.told(expected, joined, word, SIZES, other, one)

    def test_written_ones(self):
        one, other = ((0,), (2, 3)), ((1,), (5, -7, 11))
        told = {word: joined(word, (2, 3), one, other) for word in ("sum", "most", "least", "wide")}
        self.assertEqual(told, {
            "sum": ((0, 1), (10, -14, 22, 15, -21, 33)),
            "most": ((0, 1), (7, -5, 13, 8, -4, 14)),
            "least": ((0, 1), (7, -5, 13, 8, -4, 14)),
            "wide": ((0, 1), (2, -7, 2, 3, -7, 3)),
        })
        one, other = ((0, 2), (1, 0, 0, 1)), ((1,), (1, 0))
        self.told(((0, 1, 2), (1, 0, 0, 0, 0, 1, 0, 0)), joined, "any", (2, 2, 2), one, other)

    def test_three_in_any_order(self):
        draw = Random(2)
        for word in WORDS:
            for names in combinations(NAMES, 3):
                parts = [drawn_part(draw, word, SIZES, each) for each in names]
                told = {joined(word, SIZES, joined(word, SIZES, one, two), three)
                        for one, two, three in permutations(parts)}
                told.update(joined(word, SIZES, one, joined(word, SIZES, two, three))
                            for one, two, three in permutations(parts))
                self.assertEqual(len(told), 1)

    def test_nothing_joined_to_a_part(self):
        draw = Random(3)
        for word in WORDS:
            nothing = ((), (OF_NOTHING[word],))
            for names in NAMES:
                part = drawn_part(draw, word, SIZES, names)
                self.told(part, joined, word, SIZES, part, nothing)
                self.told(part, joined, word, SIZES, nothing, part)
            self.told(nothing, joined, word, SIZES, nothing, nothing)

    def test_a_part_with_itself(self):
        part = ((0, 1), (1, -2, 3, -4, 5, -6))
        self.told(((0, 1), (1, 4, 9, 16, 25, 36)), joined, "sum", (2, 3), part, part)
        self.told(((0, 1), (2, -4, 6, -8, 10, -12)), joined, "most", (2, 3), part, part)
        self.told(part, joined, "wide", (2, 3), part, part)

    def test_its_form(self):
        draw = Random(4)
        for word in WORDS:
            for names in NAMES:
                for others in NAMES:
                    told = joined(word, SIZES, drawn_part(draw, word, SIZES, names),
                                  drawn_part(draw, word, SIZES, others))
                    self.assertIs(is_part(SIZES, told), True)
                    self.assertEqual(told[0], tuple(sorted(set(names) | set(others))))

    def test_told_numbers_greater_than_a_part_has(self):
        part = ((0,), (10 ** 12, -10 ** 12))
        for times in range(2, 12):
            part = joined("sum", (2,), part, ((), (10 ** 12,)))
            self.assertEqual(part, ((0,), (10 ** (12 * times), -10 ** (12 * times))))
        self.assertEqual(worth_of("sum", ((2,), (part, part)), (1,)), 10 ** 264)
        self.told(((0,), (10 ** 264, 10 ** 264)), joined, "sum", (2,), part, part)

    def test_a_joined_part_within_a_sheet_stands_for_both(self):
        draw = Random(5)
        for word in WORDS:
            for names, others in combinations(NAMES, 2):
                one, other = drawn_part(draw, word, SIZES, names), drawn_part(draw, word, SIZES, others)
                two, alone = (SIZES, (one, other)), (SIZES, (joined(word, SIZES, one, other),))
                for filling in fillings(two)[::7]:
                    self.assertEqual(worth_of(word, two, filling), worth_of(word, alone, filling))

    def test_many_worths(self):
        sizes = (4, 4, 4, 4, 4, 3)
        draw = Random(6)
        one = drawn_part(draw, "sum", sizes, (0, 1, 2, 3, 5))
        other = drawn_part(draw, "sum", sizes, (0, 2, 3, 4, 5))
        self.told(joined_by_hand("sum", sizes, one, other), joined, "sum", sizes, one, other)


class Gathered(Case):
    def test_over_each_name(self):
        draw = Random(7)
        for word in WORDS:
            for names in NAMES:
                part = drawn_part(draw, word, SIZES, names)
                for name in names:
                    self.told(gathered_by_hand(word, SIZES, part, name), gathered, word, SIZES, part, name)

    def test_written_ones(self):
        part = ((0, 1), (1, 2, 3, 4, 5, -6))
        for word, first, last in (
            ("sum", (5, 7, -3), (6, 3)),
            ("most", (4, 5, 3), (3, 5)),
            ("least", (1, 2, -6), (1, -6)),
            ("wide", (4, 5, 3), (3, 5)),
        ):
            self.told(((1,), first), gathered, word, (2, 3), part, 0)
            self.told(((0,), last), gathered, word, (2, 3), part, 1)
        self.told(((1,), (1, 0)), gathered, "any", (2, 2), ((0, 1), (0, 0, 1, 0)), 0)

    def test_names_of_size_1(self):
        for word in WORDS:
            self.told(((), (1,)), gathered, word, (1,), ((0,), (1,)), 0)
            self.told(((1,), (1, 0)), gathered, word, (1, 2), ((0, 1), (1, 0)), 0)
            self.told(((0,), (1, 0)), gathered, word, (2, 1), ((0, 1), (1, 0)), 1)

    def test_over_all_names_in_any_order(self):
        draw = Random(8)
        sizes = (2, 3, 1, 2)
        for word in WORDS:
            part = drawn_part(draw, word, sizes, (0, 1, 2, 3))
            for order in permutations(range(4)):
                told = part
                for name in order:
                    told = gathered(word, sizes, told, name)
                self.assertEqual(told, ((), (gather(word, part[1]),)))

    def test_what_has_not_the_name_may_be_joined_ahead_or_behind(self):
        draw = Random(9)
        for word in WORDS:
            for names in NAMES:
                for others in NAMES:
                    part = drawn_part(draw, word, SIZES, names)
                    other = drawn_part(draw, word, SIZES, others)
                    # Times goes with plus whatever the sign; the others go together, too.
                    for name in set(names) - set(others):
                        ahead = gathered(word, SIZES, joined(word, SIZES, part, other), name)
                        behind = joined(word, SIZES, gathered(word, SIZES, part, name), other)
                        self.assertEqual(ahead, behind)

    def test_great_numbers(self):
        part = ((0, 1), (10 ** 40, 1, -10 ** 40, 2))
        self.told(((1,), (0, 3)), gathered, "sum", (2, 2), part, 0)
        self.told(((0,), (1, -10 ** 40)), gathered, "least", (2, 2), part, 1)

    def test_no_name_of_the_part(self):
        draw = Random(10)
        for word in WORDS:
            for names in NAMES:
                part = drawn_part(draw, word, SIZES, names)
                for thing in no_name(names):
                    self.refused(NoName, gathered, word, SIZES, part, thing)


class Settled(Case):
    def test_each_name_at_each_worth(self):
        draw = Random(11)
        for names in NAMES:
            part = drawn_part(draw, "sum", SIZES, names)
            reader = worth_in(SIZES, part)
            for name in names:
                others = tuple(other for other in names if other != name)
                for worth in range(SIZES[name]):
                    expected = part_of(SIZES, others, lambda at: reader({**at, name: worth}))
                    self.told(expected, settled, SIZES, part, name, worth)

    def test_written_ones(self):
        part = ((0, 1), (1, 2, 3, 4, 5, -6))
        self.told(((1,), (1, 2, 3)), settled, (2, 3), part, 0, 0)
        self.told(((1,), (4, 5, -6)), settled, (2, 3), part, 0, 1)
        self.told(((0,), (2, 5)), settled, (2, 3), part, 1, 1)
        self.told(((), (7,)), settled, (2, 1), ((1,), (7,)), 1, 0)

    def test_all_names_one_after_another(self):
        part = ((0, 1, 3), tuple(range(24)))
        for order in permutations(part[0]):
            for at, worths in enumerate(tuples(SIZES, part[0])):
                told = part
                for name in order:
                    told = settled(SIZES, told, name, worths[part[0].index(name)])
                self.assertEqual(told, ((), (at,)))

    def test_no_name_of_the_part(self):
        for names in NAMES:
            part = (names, (1,) * len(tuples(SIZES, names)))
            for thing in no_name(names):
                self.refused(NoName, settled, SIZES, part, thing, 0)

    def test_no_worth_of_the_name(self):
        for names in NAMES:
            part = (names, (1,) * len(tuples(SIZES, names)))
            for name in names:
                for thing in no_name(tuple(range(SIZES[name]))):
                    self.refused(NoFilling, settled, SIZES, part, name, thing)

    def test_no_name_goes_first(self):
        part = ((0, 1), (1, 2, 3, 4, 5, -6))
        for name in (2, 3, 5, -1, True, False, None, "0", (0,), [0]):
            for worth in (4, -1, True, None, "0", (0,), [0]):
                self.refused(NoName, settled, SIZES, part, name, worth)
        for thing in any_things():
            self.refused(NoName, settled, SIZES, part, None, thing)


class Widened(Case):
    def test_by_any_names(self):
        draw = Random(12)
        for names in NAMES:
            part = drawn_part(draw, "sum", SIZES, names)
            for others in subsets(len(SIZES)):
                wide = tuple(sorted(set(names) | set(others)))
                expected = part_of(SIZES, wide, worth_in(SIZES, part))
                self.told(expected, widened, SIZES, part, others)

    def test_written_ones(self):
        part = ((1,), (5, 6, 7))
        self.told(part, widened, (2, 3, 2), part, ())
        self.told(part, widened, (2, 3, 2), part, (1,))
        self.told(((0, 1), (5, 6, 7, 5, 6, 7)), widened, (2, 3, 2), part, (0,))
        self.told(((1, 2), (5, 5, 6, 6, 7, 7)), widened, (2, 3, 2), part, (1, 2))
        self.told(((0, 2), (9, 9, 9, 9)), widened, (2, 3, 2), ((), (9,)), (0, 2))
        self.told(((0, 1, 2), (1, 2, 1, 2, 3, 4, 3, 4)), widened, (2, 2, 2), ((0, 2), (1, 2, 3, 4)), (1,))

    def test_settled_at_a_new_name_it_is_the_part_again(self):
        draw = Random(13)
        for names in NAMES:
            part = drawn_part(draw, "sum", SIZES, names)
            for name in set(range(len(SIZES))) - set(names):
                wide = widened(SIZES, part, (name,))
                for worth in range(SIZES[name]):
                    self.told(part, settled, SIZES, wide, name, worth)

    def test_joined_with_it_nothing_else_changes(self):
        draw = Random(14)
        for word in WORDS:
            part, other = drawn_part(draw, word, SIZES, (1, 3)), drawn_part(draw, word, SIZES, (3, 4))
            told = joined(word, SIZES, widened(SIZES, part, (0, 4)), other)
            self.assertEqual(told, widened(SIZES, joined(word, SIZES, part, other), (0,)))

    def test_no_rising_tuple_of_names(self):
        for sizes in ((2,), (3, 2), SIZES):
            for part in (((), (7,)), ((0,), (1,) * sizes[0])):
                for thing in no_names(len(sizes)):
                    self.refused(NoName, widened, sizes, part, thing)


if __name__ == "__main__":
    unittest.main()
