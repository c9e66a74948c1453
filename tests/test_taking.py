"""Tests of sumorder.taking: names taken out, the parts left, the bags, and the whole by an order."""

import unittest
from itertools import permutations
from random import Random

import by_hand
from by_hand import OF_NOTHING, WORDS, drawn_sheet, drawn_sizes, gather, join, part_of, worth_in
from sumorder.errors import NoName
from sumorder.taking import taken_out, whole_by
from sumorder.wholes import rest, whole
from things import Case, no_order

WRITTEN = ((2, 3), (((0, 1), (1, 2, 3, 4, 5, -6)), ((), (7,))))


def by_words(word, sheet, order):
    """The parts left and the bags, by the document's sentence, worth by worth."""
    sizes, parts = sheet
    left, bags = list(parts), []
    for name in order:
        having = [part for part in left if name in part[0]]
        bag = tuple(sorted({name}.union(*[part[0] for part in having])))
        readers = [worth_in(sizes, part) for part in having]
        new = part_of(sizes, tuple(other for other in bag if other != name), lambda at: gather(
            word, [join(word, [reader({**at, name: worth}) for reader in readers])
                   for worth in range(sizes[name])]))
        left = [part for part in left if part not in having] + [new]
        bags.append(bag)
    return (left, bags)


def drawn(word, seed, times, most=8):
    """Sheets of one to so many names with drawn parts, some of them without any."""
    draw = Random(seed)
    for at in range(times):
        many = 1 + at % most
        sizes = drawn_sizes(draw, many, 3 if many < 7 else 2)
        yield draw, drawn_sheet(draw, word, sizes, draw.randint(0, many + 2))


def drawn_order(draw, many, size):
    """So many of the names in a drawn order."""
    return tuple(draw.sample(range(many), size))


class TakenOut(Case):
    def test_the_written_sheet(self):
        left = WRITTEN[1][1]
        self.told(([left, ((1,), (5, 7, -3))], [(0, 1)]), taken_out, "sum", WRITTEN, (0,))
        self.told(([left, ((0,), (6, 3))], [(0, 1)]), taken_out, "sum", WRITTEN, (1,))
        self.told(([left, ((), (9,))], [(0, 1), (1,)]), taken_out, "sum", WRITTEN, (0, 1))
        self.told(([left, ((), (9,))], [(0, 1), (0,)]), taken_out, "sum", WRITTEN, (1, 0))
        self.told(([left, ((), (5,))], [(0, 1), (0,)]), taken_out, "most", WRITTEN, (1, 0))
        self.told(([left, ((), (-6,))], [(0, 1), (0,)]), taken_out, "least", WRITTEN, (1, 0))
        self.told(([left, ((), (5,))], [(0, 1), (0,)]), taken_out, "wide", WRITTEN, (1, 0))

    def test_of_no_names_all_parts_are_left(self):
        for word in WORDS:
            for draw, sheet in drawn(word, 31, 16):
                self.told((list(sheet[1]), []), taken_out, word, sheet, ())

    def test_the_parts_left_in_their_order_the_new_one_behind(self):
        one, two, three, four = ((1,), (1, 2)), ((0, 1), (1, 2, 3, 4)), ((), (5,)), ((2,), (6, 7))
        sheet = ((2, 2, 2), (one, two, three, four))
        self.told(([one, two, three, ((), (13,))], [(2,)]), taken_out, "sum", sheet, (2,))
        self.told(([one, three, four, ((1,), (4, 6))], [(0, 1)]), taken_out, "sum", sheet, (0,))
        self.told(([three, four, ((0,), (5, 11))], [(0, 1)]), taken_out, "sum", sheet, (1,))
        self.told(([three, ((), (16,)), ((), (13,))], [(0, 1), (0,), (2,)]), taken_out, "sum", sheet, (1, 0, 2))

    def test_names_that_no_part_has(self):
        sheet = ((2, 3, 4), (((1,), (1, 0, 1)),))
        for word in WORDS:
            nothing = OF_NOTHING[word]
            of_0, of_2 = (2, 4) if word == "sum" else (nothing, nothing)
            left = sheet[1][0]
            self.told(([left, ((), (of_0,))], [(0,)]), taken_out, word, sheet, (0,))
            self.told(([left, ((), (of_2,)), ((), (of_0,))], [(2,), (0,)]), taken_out, word, sheet, (2, 0))

    def test_without_parts(self):
        self.told(([((), (3,)), ((), (2,))], [(1,), (0,)]), taken_out, "sum", ((2, 3), ()), (1, 0))
        self.told(([((), (10 ** 30,))] * 2, [(0,), (1,)]), taken_out, "wide", ((2, 3), ()), (0, 1))

    def test_parts_without_names_stay(self):
        parts = (((), (4,)), ((0,), (1, 2)), ((), (5,)))
        self.told(([parts[0], parts[2], ((), (3,))], [(0,)]), taken_out, "sum", ((2,), parts), (0,))

    def test_drawn_sheets(self):
        for word in WORDS:
            for draw, sheet in drawn(word, 32, 64):
                for size in {0, 1, len(sheet[0]) // 2, len(sheet[0])}:
                    order = drawn_order(draw, len(sheet[0]), size)
                    self.told(by_words(word, sheet, order), taken_out, word, sheet, order)

    def test_twelve_names(self):
        for word in WORDS:
            draw = Random(33)
            sheet = drawn_sheet(draw, word, (1, 2, 1, 3, 2, 2, 1, 3, 2, 2, 1, 2), 24)
            order = drawn_order(draw, 12, 12)
            self.told(by_words(word, sheet, order), taken_out, word, sheet, order)

    def test_the_parts_left_have_the_rest_of_the_other_names(self):
        for word in WORDS:
            for draw, sheet in drawn(word, 34, 32, 6):
                order = drawn_order(draw, len(sheet[0]), draw.randint(0, len(sheet[0])))
                others = tuple(name for name in range(len(sheet[0])) if name not in order)
                left = taken_out(word, sheet, order)[0]
                self.assertEqual(len(left), len([part for part in left if not set(part[0]) & set(order)]))
                # Of a sheet with sizes of 1 for what was taken out the rest of the others is the same.
                sizes = tuple(1 if name in order else size for name, size in enumerate(sheet[0]))
                self.assertEqual(rest(word, (sizes, tuple(left)), others), rest(word, sheet, others))

    def test_the_lists_are_new_each_time(self):
        for order in ((), (0,), (1, 0)):
            left, bags = taken_out("sum", WRITTEN, order)
            expected = (list(left), list(bags))
            left.append(None)
            bags.append(None)
            left.reverse()
            bags.reverse()
            self.told(expected, taken_out, "sum", WRITTEN, order)

    def test_no_order(self):
        for sheet in (((2,), ()), ((2, 3), ()), WRITTEN, ((2, 1, 2, 3), (((1, 3), (1, 0, 1)),))):
            for thing in no_order(len(sheet[0])):
                for word in WORDS:
                    self.refused(NoName, taken_out, word, sheet, thing)


class WholeBy(Case):
    def test_each_order_of_the_written_sheet(self):
        for word, told in (("sum", 63), ("most", 12), ("least", 1), ("wide", 5)):
            for order in ((0, 1), (1, 0)):
                self.told(told, whole_by, word, WRITTEN, order)

    def test_each_order_tells_the_whole(self):
        for word in WORDS:
            for draw, sheet in drawn(word, 35, 20, 5):
                expected = by_hand.whole(word, sheet)
                for order in permutations(range(len(sheet[0]))):
                    self.assertEqual(whole_by(word, sheet, order), expected)

    def test_drawn_orders_of_more_names(self):
        for word in WORDS:
            for draw, sheet in drawn(word, 36, 36, 12):
                order = drawn_order(draw, len(sheet[0]), len(sheet[0]))
                self.told(whole(word, sheet), whole_by, word, sheet, order)

    def test_some_thousand_fillings(self):
        draw = Random(37)
        for word in WORDS:
            for sizes in ((4, 4, 4, 4, 4, 3), (2,) * 11 + (1,)):
                sheet = drawn_sheet(draw, word, sizes, 16, 4, 10 ** 12)
                for _ in range(4):
                    order = drawn_order(draw, len(sizes), len(sizes))
                    self.told(whole(word, sheet), whole_by, word, sheet, order)

    def test_without_parts(self):
        for sizes in ((1,), (3,), (2, 3, 4), (1,) * 12):
            fills = len(by_hand.fillings((sizes, ())))
            for word in WORDS:
                told = fills if word == "sum" else OF_NOTHING[word]
                self.told(told, whole_by, word, (sizes, ()), tuple(reversed(range(len(sizes)))))

    def test_no_order_of_all_names(self):
        sheets = (((2,), ()), ((2, 3), ()), WRITTEN, ((2, 1, 2, 3), (((1, 3), (1, 0, 1)),)))
        for sheet in sheets:
            many = len(sheet[0])
            lacking = [order for size in range(many) for order in permutations(range(many), size)]
            for thing in no_order(many) + lacking:
                for word in WORDS:
                    self.refused(NoName, whole_by, word, sheet, thing)


if __name__ == "__main__":
    unittest.main()
