"""Tests of sumorder.numbers: fillings by their numbers, first numbers of fillings, shares."""

import unittest
from fractions import Fraction
from random import Random

import by_hand
from by_hand import drawn_names, drawn_sheet, drawn_sizes, part_of
from sumorder.errors import NoFilling, NoName, NoNumber, NoWeights
from sumorder.numbers import filling_at, number_of, share_of
from sumorder.wholes import whole
from things import Case, any_things, no_name, no_names

WRITTEN = ((2, 3), (((0, 1), (1, 0, 3, 2, 0, 1)), ((), (2,))))
NONE = ((2, 2), (((0,), (0, 0)),))


def weights(sheet):
    """Each filling with its worth by "sum", in sorted order."""
    return [(filling, by_hand.worth("sum", sheet, filling)) for filling in by_hand.fillings(sheet)]


def listed(sheet):
    """All fillings, each as often as it weighs."""
    return [filling for filling, weight in weights(sheet) for _ in range(weight)]


def drawn_weights(draw, times, high=3, most=5):
    """Sheets whose fillings weigh from 0 on, some by two parts below 0."""
    for at in range(times):
        sizes = drawn_sizes(draw, 1 + at % most, 3)
        names = [drawn_names(draw, len(sizes), 2) for _ in range(draw.randint(0, 3))]
        parts = [part_of(sizes, each, lambda filling: draw.randint(0, high)) for each in names]
        if at % 3 == 0:
            each = drawn_names(draw, len(sizes), 2)
            signs = part_of(sizes, each, lambda filling: draw.choice((-1, 1)))
            below = [(each, tuple(sign * draw.randint(0, 2) for sign in signs[1])) for _ in range(2)]
            parts += below
        draw.shuffle(parts)
        yield (sizes, tuple(parts))


def with_negatives():
    """Sheets of which all, some or one filling weighs below 0."""
    return [
        ((2, 3), (((), (-1,)),)),
        ((2, 3), (((0,), (-1, 1)),)),
        ((2, 3), (((0, 1), (1, 2, 3, 4, 5, -6)),)),
        ((2, 3), (((0, 1), (-1, 2, 3, 4, 5, 6)),)),
        ((2, 3), (((0, 1), (0, 0, 0, 0, 0, -1)),)),
        ((2, 3), (((0, 1), (10, 10, 10, -1, 10, 10)), ((), (10 ** 12,)))),
        ((2,), (((0,), (-1, 1)), ((0,), (1, -1)))),
        ((1,), (((0,), (-10 ** 12,)),)),
    ]


class FillingAt(Case):
    def test_the_written_sheet(self):
        for number, filling in enumerate([(0, 0)] * 2 + [(0, 2)] * 6 + [(1, 0)] * 4 + [(1, 2)] * 2):
            self.told(filling, filling_at, WRITTEN, number)
        self.refused(NoNumber, filling_at, WRITTEN, 14)

    def test_each_number_of_drawn_sheets(self):
        for sheet in drawn_weights(Random(1), 45, 2, 3):
            told = listed(sheet)
            for number in range(len(told)) if len(told) < 300 else list(range(100)) + list(range(len(told) - 100, len(told))):
                self.told(told[number], filling_at, sheet, number)
            self.refused(NoNumber, filling_at, sheet, len(told))

    def test_both_ends_of_each_filling(self):
        draw = Random(2)
        for high in (1, 10 ** 12):
            for sheet in drawn_weights(draw, 20, high):
                first = 0
                for filling, weight in weights(sheet):
                    if weight:
                        self.told(filling, filling_at, sheet, first)
                        self.told(filling, filling_at, sheet, first + weight - 1)
                    self.told(first, number_of, sheet, filling)
                    first += weight
                for number in (first, first + 1, first * 2 + 1, 10 ** 39, -1, -first - 1):
                    self.refused(NoNumber, filling_at, sheet, number)

    def test_without_parts_each_filling_weighs_one(self):
        for sizes in ((1,), (3,), (2, 1, 3), (1,) * 12):
            for number, filling in enumerate(by_hand.fillings((sizes, ()))):
                self.told(filling, filling_at, (sizes, ()), number)
                self.told(number, number_of, (sizes, ()), filling)

    def test_no_number(self):
        for sheet in (WRITTEN, NONE, ((2,), ()), ((1,), (((), (0,)),))):
            for thing in any_things() + [-1, -14, whole("sum", sheet), whole("sum", sheet) + 1, 10 ** 39, "0", (0,), [0]]:
                if type(thing) is not int or not 0 <= thing < whole("sum", sheet):
                    self.refused(NoNumber, filling_at, sheet, thing)

    def test_no_weights_goes_ahead_of_no_number(self):
        for sheet in with_negatives():
            for thing in [0, 1, -1, 10 ** 39, whole("sum", sheet)] + any_things():
                self.refused(NoWeights, filling_at, sheet, thing)

    def test_where_the_whole_is_0_there_is_no_number(self):
        for number in (0, 1, -1):
            self.refused(NoNumber, filling_at, NONE, number)

    def test_two_parts_below_0(self):
        sheet = ((2, 2), (((0,), (-2, 3)), ((0,), (-1, 1)), ((1,), (0, 1))))
        for number, filling in enumerate([(0, 1)] * 2 + [(1, 1)] * 3):
            self.told(filling, filling_at, sheet, number)


class NumberOf(Case):
    def test_the_written_sheet(self):
        for filling, number in zip(by_hand.fillings(WRITTEN), (0, 2, 2, 8, 12, 12)):
            self.told(number, number_of, WRITTEN, filling)

    def test_fillings_that_weigh_nought(self):
        for filling in by_hand.fillings(NONE):
            self.told(0, number_of, NONE, filling)

    def test_some_thousand_fillings(self):
        draw = Random(3)
        sheet = (4, 4, 4, 4, 4, 3), tuple((names, tuple(map(abs, worths))) for names, worths in drawn_sheet(
            draw, "sum", (4, 4, 4, 4, 4, 3), 8, 3, 10 ** 12)[1])
        first = 0
        for at, (filling, weight) in enumerate(weights(sheet)):
            if at % 500 == 499 or at == 3071:
                self.told(first, number_of, sheet, filling)
                if weight:
                    self.told(filling, filling_at, sheet, first)
                    self.told(filling, filling_at, sheet, first + weight - 1)
            first += weight
        self.refused(NoNumber, filling_at, sheet, first)

    def test_no_filling_goes_ahead_of_no_weights(self):
        for sheet in [WRITTEN, NONE] + with_negatives()[:6]:
            for thing in no_names(1)[:40] + [(0,), (0, 0, 0), (2, 0), (0, 3), (-1, 0), (0, -1), (0, True), (False, 0),
                                             [0, 0], (0, "0"), (0, None), ((0,), 0), None]:
                if not (type(thing) is tuple and len(thing) == 2 and repr(thing) in map(repr, by_hand.fillings(sheet))):
                    self.refused(NoFilling, number_of, sheet, thing)

    def test_no_weights(self):
        for sheet in with_negatives():
            for filling in by_hand.fillings(sheet):
                self.refused(NoWeights, number_of, sheet, filling)


class ShareOf(Case):
    def test_the_written_sheet(self):
        self.told((4, 7), share_of, WRITTEN, 0, 0)
        self.told((3, 7), share_of, WRITTEN, 0, 1)
        self.told((3, 7), share_of, WRITTEN, 1, 0)
        self.told((0, 1), share_of, WRITTEN, 1, 1)
        self.told((4, 7), share_of, WRITTEN, 1, 2)

    def test_drawn_sheets(self):
        draw = Random(4)
        refused = 0
        for high in (1, 9, 10 ** 12):
            for sheet in drawn_weights(draw, 30, high):
                told = weights(sheet)
                all_in_all = sum(weight for filling, weight in told)
                for name, size in enumerate(sheet[0]):
                    for worth in range(size):
                        if all_in_all == 0:
                            refused += 1
                            self.refused(NoWeights, share_of, sheet, name, worth)
                        else:
                            top = sum(weight for filling, weight in told if filling[name] == worth)
                            share = Fraction(top, all_in_all)
                            self.told((share.numerator, share.denominator), share_of, sheet, name, worth)
        self.assertGreater(refused, 0)

    def test_a_name_of_one_worth_has_all(self):
        self.told((1, 1), share_of, ((1, 3), (((1,), (1, 2, 3)),)), 0, 0)
        self.told((1, 2), share_of, ((1, 3), (((1,), (1, 2, 3)),)), 1, 2)

    def test_the_order_of_refusals(self):
        for sheet in [WRITTEN, NONE] + with_negatives():
            many = len(sheet[0])
            for name in no_name(tuple(range(many))):
                for worth in (0, 9, None, True):
                    self.refused(NoName, share_of, sheet, name, worth)
            for name, size in enumerate(sheet[0]):
                for worth in no_name(tuple(range(size))):
                    self.refused(NoFilling, share_of, sheet, name, worth)

    def test_no_weights(self):
        for sheet in with_negatives() + [NONE, ((2,), (((), (0,)),))]:
            for name, size in enumerate(sheet[0]):
                for worth in range(size):
                    self.refused(NoWeights, share_of, sheet, name, worth)


if __name__ == "__main__":
    unittest.main()
