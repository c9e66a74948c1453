"""Tests of sumorder.letters: all letters, whether anything is their list, and each bag's rest."""

import unittest
from random import Random

import by_hand
from by_hand import OF_NOTHING, WORDS, drawn_sheet
from sumorder.bags import bag_tree, is_bag_tree
from sumorder.letters import are_letters, bag_rest, letters
from sumorder.wholes import rest
from things import Case, any_things
from trees import drawn, drawn_tree, letters_by_hand, one_bag, star_of_twelve, ways

ROW = ((2, 3, 2), (((0, 1), (1, 2, 3, 4, 5, -6)), ((1, 2), (1, 0, 2, 1, 0, 3)), ((), (7,)), ((1,), (1, -1, 2))))
TWO = (((0, 1), (1, 2)), ((0, 1),))
TURNED = (((1, 2), (0, 1)), ((0, 1),))


class Letters(Case):
    def test_written_ones(self):
        # The part of no names and that of name 1 are laid in bag 0, the first that has their names.
        self.told([(0, 1, ((1,), (35, -49, -42))), (1, 0, ((1,), (1, 3, 3)))], letters, "sum", ROW, TWO)
        self.told([(0, 1, ((1,), (7, -21, 42))), (1, 0, ((1,), (5, 7, -3)))], letters, "sum", ROW, TURNED)
        self.told([(0, 1, ((1,), (12, 11, 12))), (1, 0, ((1,), (1, 2, 3)))], letters, "most", ROW, TWO)
        self.told([(0, 1, ((1,), (9, 8, 3))), (1, 0, ((1,), (0, 1, 0)))], letters, "least", ROW, TWO)
        self.told([(0, 1, ((1,), (1, -1, 2))), (1, 0, ((1,), (1, 2, 3)))], letters, "wide", ROW, TWO)

    def test_names_that_no_part_has(self):
        sheet = ((2, 3), ())
        for word in WORDS:
            nothing = OF_NOTHING[word]
            of_0, of_1 = (2, 3) if word == "sum" else (nothing, nothing)
            expected = [(0, 1, ((), (of_0,))), (1, 0, ((), (of_1,)))]
            self.told(expected, letters, word, sheet, (((0,), (1,)), ((0, 1),)))
            # In two bags a name is gathered over once: only the bag that is not the other's gathers over it.
            expected = [(0, 1, ((0,), (nothing, nothing))), (1, 0, ((0,), (of_1 if word == "sum" else nothing,) * 2))]
            self.told(expected, letters, word, sheet, (((0,), (0, 1)), ((0, 1),)))

    def test_a_bag_without_names_sends_one_worth(self):
        tree = (((), (0, 1, 2)), ((0, 1),))
        for word, told in (("sum", 7), ("most", 7), ("least", 7), ("wide", 7)):
            self.assertEqual(letters(word, ROW, tree)[0], (0, 1, ((), (told,))))
            self.told(letters_by_hand(word, ROW, tree), letters, word, ROW, tree)

    def test_one_bag_has_no_letters(self):
        for word in WORDS:
            for sheet, tree in drawn(Random(1), word, 5):
                self.told([], letters, word, sheet, one_bag(sheet))
                self.told(True, are_letters, word, sheet, one_bag(sheet), [])
                self.told(False, are_letters, word, sheet, one_bag(sheet), ())
                self.told(by_hand.rest(word, sheet, one_bag(sheet)[0][0]), bag_rest, word, sheet, one_bag(sheet), 0)

    def test_drawn_trees(self):
        for word in WORDS:
            for sheet, tree in drawn(Random(2), word, 40):
                self.assertTrue(is_bag_tree(sheet, tree))
                self.told(letters_by_hand(word, sheet, tree), letters, word, sheet, tree)

    def test_trees_by_the_program_s_own_orders(self):
        draw = Random(3)
        for word in WORDS:
            for sheet, tree in drawn(draw, word, 10):
                order = tuple(draw.sample(range(len(sheet[0])), len(sheet[0])))
                tree = bag_tree(sheet, order)
                self.told(letters_by_hand(word, sheet, tree), letters, word, sheet, tree)

    def test_stars_of_twelve_bags(self):
        draw = Random(4)
        for word in WORDS:
            for sheet, tree in drawn(draw, word, 4, 4):
                tree = star_of_twelve(draw, sheet)
                self.told(letters_by_hand(word, sheet, tree), letters, word, sheet, tree)

    def test_sorted_two_letters_a_tie(self):
        draw = Random(5)
        for sheet, tree in drawn(draw, "sum", 20):
            told = letters("sum", sheet, tree)
            self.assertEqual([(i, j) for i, j, part in told], ways(tree))
            self.assertEqual(told, sorted(told))
            self.assertEqual(len(told), 2 * len(tree[1]))

    def test_the_list_is_new_each_time(self):
        told = letters("sum", ROW, TWO)
        expected = list(told)
        told.reverse()
        told.append(None)
        self.told(expected, letters, "sum", ROW, TWO)

    def test_twelve_names(self):
        draw = Random(6)
        for word in WORDS:
            sheet = drawn_sheet(draw, word, (1, 2, 1, 2, 2, 1, 2, 1, 2, 1, 2, 1), 12)
            tree = drawn_tree(draw, sheet)
            self.told(letters_by_hand(word, sheet, tree), letters, word, sheet, tree)

    def test_some_thousand_fillings_in_each_of_twelve_bags(self):
        draw = Random(7)
        sheet = drawn_sheet(draw, "sum", (4, 4, 4, 4, 4, 3), 20, 3, 10 ** 12)
        tree = ((tuple(range(6)),) * 12, tuple((0, at) for at in range(1, 12)))
        for at in (0, 11):
            self.assertEqual(bag_rest("sum", sheet, tree, at), rest("sum", sheet, tuple(range(6))))
        self.assertEqual(len(letters("sum", sheet, tree)), 22)

    def test_letters_as_parts_of_a_sheet(self):
        # What is told may be handed in again, also where its numbers are greater than told.
        sheet = ((2, 3), (((0, 1), (10 ** 12,) * 6), ((1,), (10 ** 12,) * 3)))
        tree = (((0, 1), (1,)), ((0, 1),))
        part = letters("sum", sheet, tree)[0][2]
        greater = (sheet[0], sheet[1] + (part,))
        self.told(letters_by_hand("sum", greater, tree), letters, "sum", greater, tree)
        self.told(by_hand.rest("sum", greater, (1,)), bag_rest, "sum", greater, tree, 1)


class BagRest(Case):
    def test_written_ones(self):
        self.told(((0, 1), (7, -42, 126, 28, -105, -252)), bag_rest, "sum", ROW, TWO, 0)
        self.told(((1, 2), (35, 0, -98, -49, 0, -126)), bag_rest, "sum", ROW, TWO, 1)

    def test_each_is_the_rest_of_the_bag_s_names(self):
        for word in WORDS:
            for sheet, tree in drawn(Random(8), word, 40):
                for at, bag in enumerate(tree[0]):
                    self.told(by_hand.rest(word, sheet, bag), bag_rest, word, sheet, tree, at)
                    self.assertEqual(bag_rest(word, sheet, tree, at), rest(word, sheet, bag))

    def test_stars_of_twelve_bags(self):
        draw = Random(9)
        for word in WORDS:
            for sheet, tree in drawn(draw, word, 3, 4):
                tree = star_of_twelve(draw, sheet)
                for at, bag in enumerate(tree[0]):
                    self.told(rest(word, sheet, bag), bag_rest, word, sheet, tree, at)


def changed_at(things, at, thing):
    """The list or tuple with another thing there."""
    return things[:at] + type(things)([thing]) + things[at + 1:]


def changed_numbers(number):
    """Other things in place of a number."""
    return [number + 1, number - 1, -number - 1, None, str(number), (number,), [number], 10 ** 39] + (
        [bool(number)] if number in (0, 1) else [])


def changed_parts(part):
    """Other things in place of a part."""
    names, worths = part
    told = [None, (), (names,), (names, worths, ()), [names, worths], (list(names), worths), (names, list(worths)),
            (worths, names), (names, worths + (0,)), (names, worths[:-1]), (names, worths + worths[:1]), 0, "",
            (names + (11,), worths), (names[:-1] + (11,), worths), (names, None), (None, worths), (names, worths[0])]
    told += [(names[1:], worths), (tuple(reversed(names)), worths)] if names else []
    for at, worth in enumerate(worths):
        told += [(names, changed_at(worths, at, other)) for other in changed_numbers(worth)]
    for at, name in enumerate(names):
        told += [(changed_at(names, at, other), worths) for other in changed_numbers(name)]
    return [other for other in told if repr(other) != repr(part)]


def changed_letters(told):
    """Other lists in place of the letters."""
    others = [told + [letter] for letter in told] + [told + told, told[::-1], [told], tuple(told), told + [None]]
    for at, (i, j, part) in enumerate(told):
        others.append(told[:at] + told[at + 1:])
        others.append(told[:at + 1] + told[at:])
        if at + 1 < len(told):
            others.append(told[:at] + [told[at + 1], told[at]] + told[at + 2:])
        letter = [(other, j, part) for other in changed_numbers(i)] + [(i, other, part) for other in changed_numbers(j)]
        letter += [(i, j, other) for other in changed_parts(part)]
        letter += [(j, i, part), [i, j, part], (i, j), (i, j, part, ()), (part, i, j), ((i, j), part), None, (), part]
        others += [changed_at(told, at, other) for other in letter]
    return others


class AreLetters(Case):
    def test_the_very_list(self):
        for word in WORDS:
            for sheet, tree in drawn(Random(10), word, 15):
                told = letters_by_hand(word, sheet, tree)
                self.told(True, are_letters, word, sheet, tree, told)
                self.told(True, are_letters, word, sheet, tree, letters(word, sheet, tree))

    def test_changed_lists(self):
        for word in WORDS:
            for sheet, tree in drawn(Random(11), word, 4, 3, 3, 1):
                told = letters_by_hand(word, sheet, tree)
                for other in changed_letters(told):
                    if repr(other) != repr(told):
                        self.told(False, are_letters, word, sheet, tree, other)

    def test_truths_in_place_of_numbers(self):
        sheet = ((2, 2), (((0, 1), (1, 0, 1, 1)),))
        tree = (((0, 1), (1,)), ((0, 1),))
        self.told(True, are_letters, "any", sheet, tree, [(0, 1, ((1,), (1, 1))), (1, 0, ((1,), (1, 1)))])
        for told in (
            [(False, 1, ((1,), (1, 1))), (1, 0, ((1,), (1, 1)))], [(0, True, ((1,), (1, 1))), (1, 0, ((1,), (1, 1)))],
            [(0, 1, ((True,), (1, 1))), (1, 0, ((1,), (1, 1)))], [(0, 1, ((1,), (True, 1))), (1, 0, ((1,), (1, 1)))],
            [(0, 1, ((1,), (1, 1))), (1, 0, ((1,), (1, True)))], [(0, 1, ((1,), (1, 1))), (True, 0, ((1,), (1, 1)))],
        ):
            self.told(False, are_letters, "any", sheet, tree, told)

    def test_letters_by_another_word_or_of_another_tree(self):
        self.told(False, are_letters, "most", ROW, TWO, letters("sum", ROW, TWO))
        self.told(False, are_letters, "sum", ROW, TURNED, letters("sum", ROW, TWO))

    def test_other_things(self):
        for sheet, tree in ((ROW, TWO), (((2, 3), ()), (((0,), (1,)), ((0, 1),)))):
            for word in WORDS[:4]:
                told = letters(word, sheet, tree)
                for thing in any_things():
                    self.told(False, are_letters, word, sheet, tree, thing)
                    self.told(False, are_letters, word, sheet, tree, [thing])
                    self.told(False, are_letters, word, sheet, tree, [told[0], thing])
                    self.told(False, are_letters, word, sheet, tree, [told[0], (1, 0, thing)])
                    self.told(False, are_letters, word, sheet, tree, [told[0], (1, 0, (told[1][2][0], thing))])
        for thing in any_things():
            self.told(thing == [] and type(thing) is list, are_letters, "sum", ROW, one_bag(ROW), thing)


if __name__ == "__main__":
    unittest.main()
