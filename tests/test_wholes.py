"""Tests of sumorder.wholes: the whole and the rests, held against going through all fillings."""

import unittest
from itertools import combinations
from random import Random

import by_hand
from by_hand import OF_NOTHING, WORDS, drawn_names, drawn_part, drawn_sheet, drawn_sizes
from sumorder.errors import NoName
from sumorder.joins import gathered, joined
from sumorder.sheets import is_part
from sumorder.wholes import rest, whole
from things import Case, no_names

WRITTEN = ((2, 3), (((0, 1), (1, 2, 3, 4, 5, -6)), ((), (7,))))
# Some thousand fillings, and as many names as there may be.
LARGE = ((4, 4, 4, 4, 4, 3), (2,) * 11 + (1,), (3,) * 7, (1, 2, 1, 3, 2, 2, 1, 3, 2, 2, 1, 2))


def drawn(word, seed, times):
    """Sheets of one to twelve names with drawn parts, some of them without any."""
    draw = Random(seed)
    for at in range(times):
        many = 1 + at % 12
        sizes = drawn_sizes(draw, many, 3 if many < 7 else 2)
        yield draw, drawn_sheet(draw, word, sizes, draw.randint(0, 7))


class Wholes(Case):
    def test_the_written_sheet(self):
        for word, told in (("sum", 63), ("most", 12), ("least", 1), ("wide", 5)):
            self.told(told, whole, word, WRITTEN)

    def test_any(self):
        for worths, told in (((1, 0, 0, 1), 1), ((0, 1, 0, 0), 0), ((0, 0, 1, 0), 1)):
            self.told(told, whole, "any", ((2, 2), (((0,), (0, 1)), ((0, 1), worths))))

    def test_without_parts(self):
        for sizes in ((1,), (4,), (2, 3), (2, 1, 4, 3), (1,) * 12, (2,) * 11 + (1,)):
            fills = len(by_hand.fillings((sizes, ())))
            for word in WORDS:
                self.told(fills if word == "sum" else OF_NOTHING[word], whole, word, (sizes, ()))

    def test_names_that_no_part_has(self):
        sheet = ((2, 3, 4), (((1,), (1, 2, 3)),))
        for word, told in (("sum", 48), ("most", 3), ("least", 1), ("wide", 3)):
            self.told(told, whole, word, sheet)
        self.told(24 * 5, whole, "sum", ((2, 3, 4), (((), (5,)),)))
        self.told(1, whole, "any", ((2, 3, 4), (((1,), (0, 0, 1)),)))

    def test_drawn_sheets(self):
        for word in WORDS:
            for draw, sheet in drawn(word, 21, 48):
                self.told(by_hand.whole(word, sheet), whole, word, sheet)

    def test_some_thousand_fillings(self):
        draw = Random(22)
        for word in WORDS:
            for sizes in LARGE:
                sheet = drawn_sheet(draw, word, sizes, 12)
                self.told(by_hand.whole(word, sheet), whole, word, sheet)

    def test_as_many_parts_as_there_may_be(self):
        part = ((0,), (2, 3))
        self.told(2 ** 24 + 3 ** 24, whole, "sum", ((2,), (part,) * 24))
        self.told(72, whole, "most", ((2,), (part,) * 24))
        self.told(48, whole, "least", ((2,), (part,) * 24))
        self.told(2 * 10 ** 288, whole, "sum", ((2,), (((), (10 ** 12,)),) * 24))

    def test_told_parts_within_a_sheet(self):
        draw = Random(23)
        sizes = (2, 3, 2)
        for word in WORDS:
            for _ in range(10):
                parts = [drawn_part(draw, word, sizes, drawn_names(draw, 3, 3), 10 ** 12) for _ in range(4)]
                one, two, three, four = parts
                told = joined(word, sizes, joined(word, sizes, one, two), three)
                expected = by_hand.whole(word, (sizes, tuple(parts)))
                self.told(expected, whole, word, (sizes, (told, four)))


class Rests(Case):
    def test_the_written_sheet(self):
        for word, of_0, of_1 in (
            ("sum", (42, 21), (35, 49, -21)),
            ("most", (10, 12), (11, 12, 10)),
            ("least", (8, 1), (8, 9, 1)),
            ("wide", (3, 5), (4, 5, 3)),
        ):
            self.told(((0,), of_0), rest, word, WRITTEN, (0,))
            self.told(((1,), of_1), rest, word, WRITTEN, (1,))
        self.told(((0, 1), (7, 14, 21, 28, 35, -42)), rest, "sum", WRITTEN, (0, 1))

    def test_of_no_names_the_whole(self):
        for word in WORDS:
            for draw, sheet in drawn(word, 24, 24):
                self.told(((), (whole(word, sheet),)), rest, word, sheet, ())

    def test_of_some_names(self):
        for word in WORDS:
            for draw, sheet in drawn(word, 25, 36):
                names = drawn_names(draw, len(sheet[0]), 4)
                self.told(by_hand.rest(word, sheet, names), rest, word, sheet, names)

    def test_of_any_names(self):
        draw = Random(26)
        for word in WORDS:
            sheet = drawn_sheet(draw, word, (2, 3, 1, 2), 5)
            for size in range(5):
                for names in combinations(range(4), size):
                    self.told(by_hand.rest(word, sheet, names), rest, word, sheet, names)

    def test_of_all_names_the_worths_of_the_fillings(self):
        for word in WORDS:
            for draw, sheet in drawn(word, 27, 12):
                names = tuple(range(len(sheet[0])))
                worths = tuple(by_hand.worth(word, sheet, filling) for filling in by_hand.fillings(sheet))
                self.told((names, worths), rest, word, sheet, names)

    def test_without_parts(self):
        self.told(((1,), (8, 8, 8)), rest, "sum", ((2, 3, 4), ()), (1,))
        for word in ("most", "least", "wide", "any"):
            self.told(((0, 1), (OF_NOTHING[word],) * 6), rest, word, ((2, 3, 4), ()), (0, 1))

    def test_some_thousand_fillings(self):
        draw = Random(28)
        for word in WORDS:
            for sizes in LARGE[:2]:
                sheet = drawn_sheet(draw, word, sizes, 6)
                for names in ((), (1, 4), tuple(range(len(sizes)))):
                    self.told(by_hand.rest(word, sheet, names), rest, word, sheet, names)

    def test_gathered_it_is_the_rest_of_fewer(self):
        for word in WORDS:
            for draw, sheet in drawn(word, 29, 12):
                names = drawn_names(draw, len(sheet[0]), 4)
                told = rest(word, sheet, names)
                for name in names:
                    fewer = tuple(other for other in names if other != name)
                    self.assertEqual(gathered(word, sheet[0], told, name), rest(word, sheet, fewer))

    def test_a_rest_is_a_part_and_may_stand_in_a_sheet(self):
        for word in WORDS:
            for draw, sheet in drawn(word, 30, 12):
                told = rest(word, sheet, (0,))
                self.assertIs(is_part(sheet[0], told), all(abs(worth) <= 10 ** 12 for worth in told[1]))
                within = (sheet[0], sheet[1] + (told,))
                self.told(by_hand.whole(word, within), whole, word, within)

    def test_no_rising_tuple_of_names(self):
        for sheet in (((2,), ()), ((2, 3), ()), WRITTEN, ((2, 1, 2, 3), (((1, 3), (1, 0, 1)),))):
            for thing in no_names(len(sheet[0])):
                for word in WORDS:
                    self.refused(NoName, rest, word, sheet, thing)


if __name__ == "__main__":
    unittest.main()
