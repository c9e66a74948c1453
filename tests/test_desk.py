"""Tests of sumorder.desk: its rows and answers, what is refused, and that this changes nothing."""

import unittest
from random import Random

import by_hand
from by_hand import WORDS, drawn_sheet, drawn_sizes, tuples
from keeping import Model, drawn_change
from sumorder.desk import Desk
from sumorder.errors import NoBack, NoBag, NoDeeds, NoFilling, NoName, NoPart, NoRow, NoText, NoWorths
from sumorder.texts import sheet_text
from test_texts import first_wrong
from things import Case, any_things
from trees import best_by_hand, tree_by_hand

WRITTEN = "2 3 / 0 1 : 1 2 3 4 5 -6 / : 7"
BITS = "2 3 / 0 1 : 1 0 1 0 1 1 / 1 : 1 1 0"


def listed(numbers):
    return ",".join(str(number) for number in numbers)


class DeskModel:
    """What a desk must answer: what a keeper's model tells of what stands."""

    def __init__(self):
        self.model = None

    def begin(self, word, sheet, tree):
        self.model = Model(word, sheet, tree)
        return "ok"

    def sheet(self, sheet):
        return self.begin("sum", sheet, tree_by_hand(sheet, tuple(range(len(sheet[0])))))

    def deeds(self, word):
        return self.begin(word, self.model.sheet, self.model.tree)

    def order(self, *order):
        return self.begin(self.model.word, self.model.sheet, tree_by_hand(self.model.sheet, order))

    def whole(self):
        return str(self.model.whole())

    def rest(self, i):
        names, worths = self.model.rest(i)
        return f"{listed(names)} : {listed(worths)}" if names else f": {worths[0]}"

    def put(self, k, *worths):
        self.model.put(k, worths)
        return "ok"

    def settle(self, name, worth):
        self.model.settle(name, worth)
        return "ok"

    def free(self, name):
        self.model.free(name)
        return "ok"

    def back(self):
        self.model.back()
        return "ok"

    def rooms(self):
        return listed(len(tuples(self.model.sheet[0], bag)) for bag in self.model.tree[0])

    def letters(self):
        return str(self.model.reckoned())


class DeskCase(Case):
    def begun(self, text=WRITTEN):
        """A desk on which a sheet stands."""
        desk = Desk()
        self.says(desk, ("sheet " + text, "ok"))
        return desk

    def says(self, desk, *rows):
        """The desk answers each row with this very text."""
        for row, answer in rows:
            self.assertEqual(repr(desk.say(row)), repr(answer), row[:200])

    def no(self, desk, error, *rows):
        """The desk refuses each row with this very class, twice."""
        for row in rows:
            for _ in range(2):
                self.refused(error, desk.say, row)

    def no_text(self, desk, at, row):
        """The desk refuses the row at this word of its text, twice."""
        for _ in range(2):
            with self.assertRaises(NoText) as caught:
                desk.say(row)
            self.assertIs(type(caught.exception), NoText)
            self.assertEqual(caught.exception.at, at, row[:200])

    def alike(self, desk, model, method, *handed):
        """The desk answers what the model does."""
        row = " ".join([method] + [str(each) for each in handed])
        self.says(desk, (row, getattr(model, method)(*handed)))

    def best_alike(self, desk, model):
        """The best worth and any right filling, of "sum" a refusal; no letter is reckoned."""
        keeping = model.model
        if keeping.word == "sum":
            self.no(desk, NoDeeds, "best")
        else:
            worth, fillings = best_by_hand(keeping.word, keeping.sheet, keeping.fixed)
            self.assertIn(desk.say("best"), [f"{worth} {listed(filling)}" for filling in fillings])
        self.alike(desk, model, "letters")

    def all_alike(self, desk, model):
        """All that the desk tells is what the model does."""
        self.alike(desk, model, "letters")
        self.alike(desk, model, "rooms")
        self.alike(desk, model, "whole")
        for at in range(len(model.model.tree[0])):
            self.alike(desk, model, "rest", at)
        self.best_alike(desk, model)


class Rows(DeskCase):
    def test_a_written_talk(self):
        self.says(
            self.begun(), ("letters", "0"), ("whole", "63"), ("letters", "1"), ("rest 0", "0,1 : 7,14,21,28,35,-42"),
            ("rest 1", "1 : 35,49,-21"), ("letters", "2"), ("rooms", "6,3"), ("settle 0 1", "ok"), ("letters", "2"),
            ("rest 0", "1 : 28,35,-42"), ("whole", "21"), ("settle 1 2", "ok"), ("rest 0", ": -42"), ("rest 1", ": -42"),
            ("rooms", "6,3"), ("put 1 -1", "ok"), ("whole", "6"), ("back", "ok"), ("whole", "-42"), ("free 0", "ok"),
            ("rest 0", "0 : 21,-42"), ("rest 1", ": -21"), ("deeds most", "ok"), ("letters", "0"), ("whole", "12"),
            ("best", "12 1,1"), ("settle 0 0", "ok"), ("best", "10 0,2"), ("order 1 0", "ok"), ("rooms", "6,2"),
            ("letters", "0"), ("best", "12 1,1"), ("deeds least", "ok"), ("best", "1 1,2"), ("deeds wide", "ok"),
            ("best", "5 1,1"), ("sheet 1", "ok"), ("whole", "1"), ("rest 0", "0 : 1"), ("rooms", "1"), ("letters", "0"),
        )

    def test_drawn_talks(self):
        draw = Random(1)
        for at in range(60):
            word = WORDS[at % 5]
            sheet = drawn_sheet(draw, word, drawn_sizes(draw, draw.randint(1, 4), 3), draw.randint(0, 4), 2, 5)
            desk, model = Desk(), DeskModel()
            self.says(desk, ("sheet " + sheet_text(sheet), model.sheet(sheet)))
            self.all_alike(desk, model)
            self.alike(desk, model, "deeds", word)
            for _ in range(15):
                self.drawn_row(draw, desk, model)
            self.all_alike(desk, model)
            while model.model.past:
                self.alike(desk, model, "back")
                self.best_alike(desk, model)
            self.no(desk, NoBack, "back")
            self.all_alike(desk, model)

    def drawn_row(self, draw, desk, model):
        """A drawn row: a change mostly, other deeds or another order, a question."""
        sheet = model.model.sheet
        kind = draw.randint(0, 9)
        if kind == 0:
            bits = all(worth in (0, 1) for names, worths in sheet[1] for worth in worths)
            self.alike(desk, model, "deeds", draw.choice(WORDS if bits else WORDS[:4]))
        elif kind == 1:
            self.alike(desk, model, "order", *draw.sample(range(len(sheet[0])), len(sheet[0])))
        elif kind < 7:
            method, *handed = drawn_change(draw, model.model)
            if method == "put":
                handed = [handed[0], *handed[1]]
            self.alike(desk, model, method, *handed)
        else:
            self.alike(desk, model, *draw.choice([("whole",), ("rest", draw.randrange(len(model.model.tree[0])))]))
        self.alike(desk, model, "letters")
        self.best_alike(desk, model)

    def test_a_new_sheet_stands_by_sum_and_its_own_order_and_nothing_settled(self):
        desk = self.begun()
        self.says(desk, ("deeds most", "ok"), ("order 1 0", "ok"), ("settle 0 1", "ok"), ("whole", "12"))
        self.says(desk, ("sheet 2 3 / 0 1 : 1 1 1 1 1 1", "ok"), ("letters", "0"), ("rooms", "6,3"), ("whole", "6"))
        self.no(desk, NoDeeds, "best")
        self.no(desk, NoBack, "back")
        self.no(desk, NoName, "free 0")

    def test_deeds_keep_the_tree_and_the_worths_but_free_all_names(self):
        desk = self.begun()
        self.says(desk, ("order 1 0", "ok"), ("put 1 3", "ok"), ("settle 0 1", "ok"), ("whole", "9"))
        self.says(desk, ("deeds most", "ok"), ("rooms", "6,2"), ("letters", "0"), ("whole", "8"), ("rest 1", "0 : 6,8"))
        self.no(desk, NoName, "free 0")
        self.no(desk, NoBack, "back")
        self.says(desk, ("settle 0 0", "ok"), ("deeds most", "ok"), ("whole", "8"), ("letters", "1"))

    def test_orders_keep_the_word_and_the_worths_but_free_all_names(self):
        desk = self.begun()
        self.says(desk, ("deeds least", "ok"), ("put 1 3", "ok"), ("settle 0 0", "ok"), ("whole", "4"), ("letters", "1"))
        self.says(desk, ("order 0 1", "ok"), ("letters", "0"), ("whole", "-3"), ("best", "-3 1,2"))
        self.no(desk, NoName, "free 0")
        self.no(desk, NoBack, "back")

    def test_back_goes_behind_no_sheet_deeds_or_order_row(self):
        for row in ("sheet " + WRITTEN, "deeds sum", "deeds wide", "order 0 1", "order 1 0"):
            desk = self.begun()
            self.says(desk, ("put 1 2", "ok"), ("settle 0 0", "ok"), (row, "ok"))
            self.no(desk, NoBack, "back")
            self.says(desk, ("settle 1 1", "ok"), ("back", "ok"))
            self.no(desk, NoBack, "back")

    def test_twelve_names_and_bags(self):
        text = " ".join(["1", "2"] * 6) + " / 10 11 : 1 2 / 9 10 : 3 4"
        desk = self.begun(text)
        self.says(desk, ("whole", str(3 * 7 * 16)), ("letters", "11"), ("rest 11", f"11 : {112},{224}"), ("settle 11 1", "ok"))
        self.says(desk, ("order 11 10 9 8 7 6 5 4 3 2 1 0", "ok"), ("rooms", "2,2,2,1,2,1,2,1,2,1,2,1"), ("whole", "336"))

    def test_a_long_text(self):
        sizes = (4, 4, 4, 4, 4, 3)
        great = "-1000000000000"
        rooms = (("0 1 2 3 4", 1024), ("0 1 2 3 5", 768), ("0 1 2 5", 192), ("0 1", 16))
        text = listed(sizes).replace(",", " ") + "".join(f" / {names} :" + f" {great}" * many for names, many in rooms)
        self.assertGreater(len(text), 6000)
        desk = self.begun(text)
        self.says(desk, ("whole", str(3072 * 10 ** 48)), ("deeds most", "ok"), ("whole", str(-4 * 10 ** 12)))
        self.no_text(desk, len(text.split(" ")), "sheet " + text + " / : 1")
        self.says(desk, ("whole", str(-4 * 10 ** 12)))

    def test_best_over_what_is_settled(self):
        desk = self.begun("2 2 / 0 1 : 4 3 2 1")
        self.says(desk, ("deeds most", "ok"), ("best", "4 0,0"), ("settle 0 1", "ok"), ("best", "2 1,0"), ("settle 1 1", "ok"),
                  ("best", "1 1,1"), ("settle 0 0", "ok"), ("best", "3 0,1"), ("free 1", "ok"), ("best", "4 0,0"),
                  ("back", "ok"), ("back", "ok"), ("best", "1 1,1"), ("put 0 4 3 2 9", "ok"), ("best", "9 1,1"),
                  ("letters", "0"), ("whole", "9"), ("letters", "1"))

    def test_the_order_0_1_and_another(self):
        desk = self.begun("2 3 4 / 0 1 : 1 1 1 1 1 1 / 1 2 : 1 1 1 1 1 1 1 1 1 1 1 1")
        self.says(desk, ("rooms", "6,12,4"), ("order 1 0 2", "ok"), ("rooms", "24,8,4"), ("rest 1", "0,2 : " + ",".join("3" * 8)))

    def test_no_parts(self):
        desk = self.begun("2 3")
        self.says(desk, ("whole", "6"), ("deeds any", "ok"), ("whole", "1"), ("deeds wide", "ok"), ("whole", str(10 ** 30)))
        self.no(desk, NoPart, "put 0 1")

    def test_two_desks_apart(self):
        one, other = self.begun(), self.begun()
        self.says(one, ("settle 0 1", "ok"), ("put 1 1", "ok"), ("deeds most", "ok"), ("whole", "6"), ("letters", "1"))
        self.says(other, ("letters", "0"), ("whole", "63"))
        self.no(other, NoBack, "back")
        self.no(Desk(), NoRow, "whole")


NO_ROWS = (
    "", " ", "  ", "x", "ok", "Whole", "WHOLE", "wholes", "whol", "whole ", " whole", "whole 1", "whole whole", "whole\n",
    "\twhole", "whole\t", "sheet", "sheets 2", "Sheet 2", "sheet\t2", "\tsheet 2", " sheet 2", "deeds", "deeds ", "deeds x",
    "deeds sum ", "deeds  sum", "deeds sum most", "deeds Sum", "deeds sum\n", "deed sum", "order", "order ", "order 0 ",
    "order  0 1", "order 0  1", "order 00 1", "order 01 0", "order +0 1", "order -1 0", "order -0 1", "order 1000 0",
    "order 0 1000", "order 0,1", "order x", "order 0 1 x", "order\t0 1", "order 0\t1", "rest", "rest ", "rest 0 1", "rest  0",
    "rest 0 ", "rest 00", "rest 01", "rest +0", "rest -0", "rest -1", "rest 1000", "rest 0000", "rest x", "rest 0x", "rest 0\n",
    "put", "put 0", "put ", "put 0 ", "put 1  7", "put 1 7 ", "put  1 7", "put 01 7", "put 1000 7", "put -1 7", "put +1 7",
    "put 1 07", "put 1 +7", "put 1 -0", "put 1 -", "put 1 --7", "put 1 -07", "put 1 x", "put 1 7,8", "put 1 10000000000000",
    "put 1 -10000000000000", "put 0 1 2 3 4 5 x", "put x 1", "put 1 7\n", "put 1 00", "settle", "settle 0", "settle 0 0 0",
    "settle 0 00", "settle 00 0", "settle 0 -1", "settle -1 0", "settle 0 +1", "settle 0 1000", "settle 1000 0", "settle 0 ",
    "settle  0 0", "settle 0  0", "settle 0 0 ", "settle x 0", "settle 0 x", "settle 0\t0", "free", "free ", "free 0 1",
    "free 00", "free 1000", "free -1", "free +0", "free 0 ", "free x", "free  0", "back ", "back 1", " back", "backs", "best ",
    "best 0", "bests", "best\n", "rooms ", "rooms 0", "room", "letters ", "letters 0", "letter", "put 1 " + "7" * 5000,
    "rest " + "1" * 5000, "order " + "0" * 4400, "settle 0 " + "1" * 4301, "settle " + "1" * 4301 + " 0", "free " + "9" * 5900,
    "put " + "1" * 4301 + " 1", "put 1 -" + "7" * 5000, "1" * 4301,
)
ROWS = ("deeds most", "deeds any", "order 0 1", "order 0", "whole", "rest 0", "rest 9", "put 0 1", "put 9 1", "settle 0 0",
        "settle 9 0", "free 0", "back", "best", "rooms", "letters")


class Refusals(DeskCase):
    def kept(self, text=WRITTEN):
        """A desk with a talk behind it, and its model."""
        sheet = {WRITTEN: ((2, 3), (((0, 1), (1, 2, 3, 4, 5, -6)), ((), (7,)))),
                 BITS: ((2, 3), (((0, 1), (1, 0, 1, 0, 1, 1)), ((1,), (1, 1, 0))))}[text]
        desk, model = self.begun(text), DeskModel()
        model.sheet(sheet)
        word = "any" if text == BITS else "most"
        for row in (("deeds", word), ("order", 1, 0), ("settle", 0, 1), ("put", 1, *sheet[1][1][1]), ("rest", 1)):
            self.alike(desk, model, *row)
        return desk, model

    def unchanged(self, desk, model):
        """Nothing was changed by what was refused."""
        self.all_alike(desk, model)
        for _ in range(2):
            self.alike(desk, model, "back")
            self.all_alike(desk, model)
        self.no(desk, NoBack, "back")
        self.all_alike(desk, model)

    def test_rows_that_are_none(self):
        desk, model = self.kept()
        letters = desk.say("letters")
        for row in NO_ROWS:
            self.no(desk, NoRow, row)
            self.says(desk, ("letters", letters))
        self.unchanged(desk, model)

    def test_no_sheet_stands(self):
        desk = Desk()
        self.no(desk, NoRow, *ROWS, *NO_ROWS)
        self.no_text(desk, 0, "sheet ")
        self.no_text(desk, 1, "sheet 2 5")
        # A refused sheet does not stand.
        self.no(desk, NoRow, *ROWS)
        self.says(desk, ("sheet 2", "ok"), ("whole", "2"))

    def test_other_things_are_no_rows(self):
        for desk in (Desk(), self.begun()):
            for thing in any_things():
                self.no(desk, NoRow, thing)

    def test_no_text(self):
        desk, model = self.kept()
        for text in ("", " ", "2 ", " 2", "2  3", "0", "5", "2 /", "2 / :", "2 / : 1 2", "2 / 0 : 1", "2 / 0 : 1 2 3", "2\n",
                     "2 / 1 : 1 1", "2 / : 01", "2 / : -0", "2 / : 1000000000001", "x", "2 x", "sheet 2", "2 / : " + "1" * 4400,
                     "1 " * 12 + "1", "4 4 4 4 4 4", "1" + " / : 1" * 25, "/ : 1", "2 : 1"):
            self.no_text(desk, first_wrong(text), "sheet " + text)
        self.unchanged(desk, model)

    def test_no_deeds(self):
        desk, model = self.kept()
        self.no(desk, NoDeeds, "deeds any")
        self.unchanged(desk, model)
        desk = self.begun("2 / 0 : 0 1 / : -1")
        self.no(desk, NoDeeds, "deeds any", "best")
        self.says(desk, ("put 1 2", "ok"))
        self.no(desk, NoDeeds, "deeds any")
        self.says(desk, ("put 1 1", "ok"), ("deeds any", "ok"), ("whole", "1"), ("best", "1 1"))
        self.says(desk, ("deeds sum", "ok"))
        self.no(desk, NoDeeds, "best")

    def test_no_name(self):
        desk, model = self.kept()
        self.no(desk, NoName, "order 0", "order 1", "order 0 0", "order 0 1 0", "order 0 2", "order 0 1 2", "order 999 0",
                "order 2 1", "order " + " ".join(["0"] * 2000))
        self.no(desk, NoName, "settle 2 0", "settle 999 0", "settle 2 9", "free 1", "free 2", "free 999")
        self.unchanged(desk, model)

    def test_no_bag_part_worths_and_filling(self):
        desk, model = self.kept()
        self.no(desk, NoBag, "rest 2", "rest 3", "rest 12", "rest 999")
        self.no(desk, NoPart, "put 2 1", "put 2 1 2 3 4 5 6", "put 999 1", "put 24 9999999999999")
        self.no(desk, NoWorths, "put 1 1 2", "put 0 1", "put 0 1 2 3 4 5", "put 0 1 2 3 4 5 6 7", "put 1 1000000000001",
                "put 1 -1000000000001", "put 1 9999999999999", "put 1 -9999999999999")
        self.no(desk, NoFilling, "settle 0 2", "settle 1 3", "settle 0 999")
        self.unchanged(desk, model)

    def test_by_any(self):
        desk, model = self.kept(BITS)
        self.no(desk, NoWorths, "put 1 0 1 2", "put 1 0 1 -1", "put 1 0 1", "put 0 2 0 1 0 1 1")
        self.no(desk, NoPart, "put 2 2")
        self.unchanged(desk, model)
        self.says(desk, ("deeds sum", "ok"), ("put 1 0 1 2", "ok"))
        self.no(desk, NoDeeds, "deeds any")

    def test_worths_at_their_bounds(self):
        desk = self.begun()
        self.says(desk, ("put 1 1000000000000", "ok"), ("whole", "9000000000000"), ("put 1 -1000000000000", "ok"),
                  ("whole", "-9000000000000"), ("put 1 0", "ok"), ("whole", "0"))

    def test_no_back(self):
        desk = self.begun()
        self.no(desk, NoBack, "back")
        self.no(desk, NoFilling, "settle 0 2")
        self.no(desk, NoBack, "back")
        self.says(desk, ("put 1 7", "ok"), ("back", "ok"))
        self.no(desk, NoBack, "back")


class Throughout(DeskCase):
    def test_what_is_read_is_what_is_told(self):
        draw = Random(2)
        for at in range(20):
            sheet = drawn_sheet(draw, "sum", drawn_sizes(draw, 1 + at % 6, 3), 4)
            desk = self.begun(sheet_text(sheet))
            for word in WORDS[:4]:
                self.says(desk, ("deeds " + word, "ok"), ("whole", str(by_hand.whole(word, sheet))))


if __name__ == "__main__":
    unittest.main()
