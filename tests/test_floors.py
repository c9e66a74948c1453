"""Tests of sumorder.floors: the least room of all orders, and the floors that show it."""

import unittest
from itertools import combinations, permutations
from random import Random

from shapes import all_tied, bag_by_hand, bags_by_hand, none_tied, ring, room_by_hand, row, shapes, sheet_of
from sumorder.errors import TooMany
from sumorder.floors import are_floors, least_room
from sumorder.orders import room_of
from things import Case, any_things, no_names

NOT_WHOLE = (None, True, False, "", "1", (), (1,), [], [1], ((),))


def all_subsets(many):
    """All rising tuples of so many names, sorted."""
    return sorted(names for size in range(many + 1) for names in combinations(range(many), size))


def fit(sheet, numbers):
    """Whether the numbers, by their names, are floors, by the document's sentence."""
    if numbers[()] > 1:
        return False
    for names in numbers:
        for name in names:
            others = tuple(other for other in names if other != name)
            if numbers[names] > max(numbers[others], room_by_hand(sheet, bag_by_hand(sheet, others, name))):
                return False
    return True


class LeastRoom(Case):
    def held(self, sheet, least):
        """The room is this one, the order has it, and the floors show it."""
        room, order, floors = self.asked(least_room, sheet)
        everything = tuple(range(len(sheet[0])))
        self.assertEqual((type(room), room), (int, least))
        self.assertIs(type(order), tuple)
        self.assertEqual(sorted(order), list(everything))
        self.assertEqual(max(room_by_hand(sheet, bag) for bag in bags_by_hand(sheet, order)), room)
        self.assertIs(type(floors), list)
        self.assertEqual([names for names, number in floors], all_subsets(len(everything)))
        self.assertTrue(all(type(floor) is tuple and type(floor[1]) is int for floor in floors))
        self.assertTrue(fit(sheet, dict(floors)))
        self.assertEqual(dict(floors)[everything], room)
        self.told(True, are_floors, sheet, floors, room)
        self.told(False, are_floors, sheet, floors, room + 1)
        self.told(False, are_floors, sheet, floors, room - 1)

    def test_all_orders_of_up_to_five_names(self):
        for sheet in shapes(5, 3):
            self.held(sheet, min(room_of(sheet, order) for order in permutations(range(len(sheet[0])))))

    def test_all_orders_of_six_and_seven_names(self):
        for sheet in list(shapes(6))[-12:] + list(shapes(7))[-3:]:
            self.held(sheet, min(room_of(sheet, order) for order in permutations(range(len(sheet[0])))))

    def test_eight_names(self):
        twos = (2,) * 8
        self.held(sheet_of(twos, [(at, (at + 1) % 8) for at in range(8)]), 8)
        self.held(sheet_of(twos, [(at, at + 1) for at in range(7)]), 4)
        self.held(sheet_of(twos, combinations(range(8), 2)), 256)
        self.held((twos, ()), 2)
        # A cube needs bags of four names.
        self.held(sheet_of(twos, [(one, one ^ bit) for one in range(8) for bit in (1, 2, 4) if not one & bit]), 16)

    def test_written_ones(self):
        sheet = sheet_of((2, 3), [(0, 1)])
        room, order, floors = least_room(sheet)
        self.assertEqual((room, floors), (6, [((), 1), ((0,), 6), ((0, 1), 6), ((1,), 6)]))
        self.held(((1,), ()), 1)
        self.held(((1,) * 8, ()), 1)
        self.held(((3, 4, 2), ()), 4)
        # A row from one end: no bag has more than two names.
        self.held(sheet_of((2, 3, 4), [(0, 1), (1, 2)]), 12)

    def test_the_floors_are_new_each_time(self):
        sheet = ring(4)
        floors = least_room(sheet)[2]
        before = list(floors)
        floors.append(None)
        floors.reverse()
        self.assertEqual(least_room(sheet)[2], before)

    def test_too_many_names(self):
        for sheet in (ring(9), none_tied(9), ((1,) * 9, ()), ((1,) * 10, ()), row(12), all_tied(9)):
            self.refused(TooMany, least_room, sheet)

    def test_too_many_names_ahead_of_all(self):
        right = least_room(row(3))[2]
        for many in (9, 10, 12):
            floors = [(names, 1) for names in all_subsets(many)]
            for thing in any_things() + [right, floors]:
                self.refused(TooMany, are_floors, ((1,) * many, ()), thing, 1)
            for number in NOT_WHOLE:
                self.refused(TooMany, are_floors, ((1,) * many, ()), floors, number)


class Floors(Case):
    def test_one_more_or_one_less(self):
        for sheet in list(shapes(4)) + [ring(5), row(5)]:
            room, order, floors = least_room(sheet)
            for at, (names, number) in enumerate(floors):
                for other in (number - 1, number + 1):
                    changed = floors[:at] + [(names, other)] + floors[at + 1:]
                    expected = fit(sheet, dict(changed))
                    last = dict(changed)[tuple(range(len(sheet[0])))]
                    self.told(expected, are_floors, sheet, changed, last)
                    self.told(expected and last == room, are_floors, sheet, changed, room)

    def test_drawn_numbers(self):
        draw = Random(51)
        answers = []
        for sheet in shapes(4):
            room, order, floors = least_room(sheet)
            for _ in range(30):
                changed = [(names, number + draw.choice((-9, -2, -1, 0, 0, 0, 0, 1))) for names, number in floors]
                expected = fit(sheet, dict(changed))
                answers.append(expected)
                self.told(expected, are_floors, sheet, changed, dict(changed)[tuple(range(len(sheet[0])))])
        self.assertEqual(set(answers), {True, False})

    def test_lower_floors_are_floors(self):
        for sheet in (ring(4), row(3), ((1,), ()), all_tied(4)):
            room, order, floors = least_room(sheet)
            everything = tuple(range(len(sheet[0])))
            for low in (1, 0, -1, -10 ** 39):
                self.told(True, are_floors, sheet, [(names, low) for names, number in floors], low)
            kept = [(names, number if names == everything else min(number, room)) for names, number in floors]
            self.told(fit(sheet, dict(kept)), are_floors, sheet, kept, room)
            for low in (0, -5):
                lower = [(names, number if names else low) for names, number in floors]
                self.told(fit(sheet, dict(lower)), are_floors, sheet, lower, room)

    def test_the_number_of_none(self):
        sheet = ((2,), ())
        for none, told in ((1, True), (0, True), (-7, True), (2, False), (3, False)):
            self.told(told, are_floors, sheet, [((), none), ((0,), 2)], 2)
        for number, told in ((2, True), (1, True), (0, True), (3, False)):
            self.told(told, are_floors, sheet, [((), 1), ((0,), number)], number)

    def test_another_number_beside(self):
        for sheet in (ring(4), ((1,), ()), ((1, 1), ())):
            room, order, floors = least_room(sheet)
            for number in NOT_WHOLE + (room + 1, room - 1, -room, 10 ** 39):
                self.told(False, are_floors, sheet, floors, number)

    def test_left_out_twice_or_out_of_order(self):
        for sheet in (ring(4), row(2), ((2,), ())):
            room, order, floors = least_room(sheet)
            for at, floor in enumerate(floors):
                self.told(False, are_floors, sheet, floors[:at] + floors[at + 1:], room)
                self.told(False, are_floors, sheet, floors[:at] + [floor] + floors[at:], room)
                for other in range(at):
                    changed = list(floors)
                    changed[at], changed[other] = changed[other], changed[at]
                    self.told(False, are_floors, sheet, changed, room)
                    changed[at] = changed[other]
                    self.told(False, are_floors, sheet, changed, room)
            for changed in ([], floors[::-1], floors * 2, floors + [((), 1)], floors + [None]):
                self.told(False, are_floors, sheet, changed, room)

    def test_other_kinds_within(self):
        for sheet in (ring(4), ((1, 1), ())):
            room, order, floors = least_room(sheet)
            for at, (names, number) in enumerate(floors):
                others = [[names, number], (names,), (names, number, number), (number, names), (list(names), number)]
                others += [(names, thing) for thing in NOT_WHOLE + ([number], (number,), str(number))]
                others += [(thing, number) for thing in NOT_WHOLE if thing != names]
                others += [(tuple(map(bool, names)), number)] if names else []
                for other in others:
                    self.told(False, are_floors, sheet, floors[:at] + [other] + floors[at + 1:], room)

    def test_truths_for_numbers(self):
        sheet = ((1, 1), ())
        self.told(True, are_floors, sheet, [((), 1), ((0,), 1), ((0, 1), 1), ((1,), 1)], 1)
        self.told(False, are_floors, sheet, [((), True), ((0,), 1), ((0, 1), 1), ((1,), 1)], 1)
        self.told(False, are_floors, sheet, [((), 1), ((0,), 1), ((0, 1), True), ((1,), 1)], 1)
        self.told(False, are_floors, sheet, [((), 1), ((False,), 1), ((0, 1), 1), ((1,), 1)], 1)
        self.told(False, are_floors, sheet, [((), 1), ((0,), 1), ((0, True), 1), ((1,), 1)], 1)
        self.told(False, are_floors, sheet, [((), 1), ((0,), 1), ((0, 1), 1), ((True,), 1)], 1)

    def test_a_tuple_for_the_list(self):
        for sheet in (ring(4), ((2,), ())):
            room, order, floors = least_room(sheet)
            for thing in (tuple(floors), [floors], (floors,), (room, order, floors), str(floors)):
                self.told(False, are_floors, sheet, thing, room)

    def test_any_other_thing(self):
        for sheet in (ring(4), ((2,), ()), row(8)):
            room, order, floors = least_room(sheet)
            for thing in any_things() + no_names(len(sheet[0])):
                self.told(False, are_floors, sheet, thing, room)
                self.told(False, are_floors, sheet, [thing] * len(floors), room)
                self.told(False, are_floors, sheet, floors[:-1] + [thing], room)
            for thing in no_names(len(sheet[0])):
                self.told(False, are_floors, sheet, floors[:-1] + [(thing, room)], room)


if __name__ == "__main__":
    unittest.main()
