"""Tests of sumorder.texts: sheets written, texts read, and the word at which a text is refused."""

import re
import unittest
from bisect import bisect_left
from random import Random

from by_hand import drawn_sheet, drawn_sizes, part_of, tuples
from sumorder.errors import NoText
from sumorder.joins import joined
from sumorder.sheets import is_sheet
from sumorder.texts import read_sheet, sheet_text
from things import Case, any_things

GREAT = 10 ** 12
WRITTEN = ((2, 3), (((0, 1), (1, 2, 3, 4, 5, -6)), ((), (7,))))
TEXT = "2 3 / 0 1 : 1 2 3 4 5 -6 / : 7"
NAME = re.compile("0|[1-9][0-9]*")
WORTH = re.compile("0|-?[1-9][0-9]*")


def sections(words):
    """The words between the strokes."""
    told = [[]]
    for word in words:
        if word == "/":
            told.append([])
        else:
            told[-1].append(word)
    return told


def numbers(pattern, words):
    """The numbers that the words are, None where one is none; what is far too long is as good as 10 ** 40."""
    if not all(pattern.fullmatch(word) for word in words):
        return None
    return tuple(int(word) if len(word) < 30 else 10 ** 40 for word in words)


def ended(sizes, words, last):
    """A part of these words: the last part's lacking words, a colon and worths, are put behind."""
    if ":" not in words and last:
        words = words + [":"]
    if words.count(":") != 1:
        return None
    at = words.index(":")
    names, worths = numbers(NAME, words[:at]), numbers(WORTH, words[at + 1:])
    if names is None or worths is None or any(name >= len(sizes) for name in names):
        return None
    many = len(tuples(sizes, names)) if len(names) <= 12 else 0
    return (names, worths + (0,) * (many - len(worths) if last else 0))


def begun(words):
    """A sheet whose text begins with these words, one or more, or None; by the least way to go on."""
    first, *behind = sections(words)
    sizes = numbers(NAME, first)
    if sizes is None or not is_sheet((sizes, ())):
        return None
    parts = [ended(sizes, part, at == len(behind) - 1) for at, part in enumerate(behind)]
    sheet = (sizes, tuple(parts))
    return sheet if is_sheet(sheet) else None


def text_by_hand(sheet):
    """The sheet's text, by the document's sentence."""
    told = " ".join(map(str, sheet[0]))
    for names, worths in sheet[1]:
        told += " / " + "".join(f"{name} " for name in names) + ": " + " ".join(map(str, worths))
    return told


def first_wrong(text):
    """The number of the first word such that no sheet's text begins with the words up to it, else how many."""
    words = text.split(" ")
    if len(words) > 100:
        # A text that begins with some words begins with fewer of them, too.
        return bisect_left(range(len(words)), True, key=lambda at: begun(words[:at + 1]) is None)
    return next((at for at in range(len(words)) if begun(words[:at + 1]) is None), len(words))


def at_the_bounds():
    """Sheets at their bounds."""
    wide = (4, 4, 4, 4, 4, 3)
    rooms = ((0, 1, 2, 3, 4), (0, 1, 2, 3, 5), (0, 1, 2, 5), (0, 1))
    most = tuple(part_of(wide, names, lambda filling: GREAT if filling[names[0]] else -GREAT) for names in rooms)
    assert sum(len(worths) for names, worths in most) == 2000
    return [
        ((1,), ()), ((4,), ()), ((1,) * 12, ()), ((2,) * 11 + (1,), ()), ((4, 4, 3, 3, 3, 3, 3), ()), (wide, most),
        ((2,), (((), (0,)),) * 24), ((3,), (((0,), (GREAT, -GREAT, 0)),) * 24),
        ((1,) * 12, ((tuple(range(12)), (-GREAT,)),) * 24), ((2, 2), (((), (-GREAT,)), ((), (GREAT,)))),
        (wide, most[:3] + (((0,), (1, 2, 3, 4)),) * 4),
    ]


def read_long(word):
    """The number that a word of many figures is."""
    told = 0
    for sign in word.lstrip("-"):
        told = told * 10 + int(sign)
    return -told if word.startswith("-") else told


class TextCase(Case):
    def refused_at(self, at, text):
        """The text is refused at this word."""
        with self.assertRaises(NoText) as caught:
            read_sheet(text)
        self.assertIs(type(caught.exception), NoText)
        self.assertEqual(repr(caught.exception.at), repr(at), text[:300])


class Written(TextCase):
    def test_written_ones(self):
        self.told(TEXT, sheet_text, WRITTEN)
        self.told("1", sheet_text, ((1,), ()))
        self.told("2 / : 0", sheet_text, ((2,), (((), (0,)),)))
        self.told("2 / 0 : -1 10", sheet_text, ((2,), (((0,), (-1, 10)),)))
        self.told(" ".join(["1"] * 12) + " / 10 11 : 5", sheet_text, ((1,) * 12, (((10, 11), (5,)),)))
        self.told("1 / : 1000000000000 / : -1000000000000", sheet_text, ((1,), (((), (GREAT,)), ((), (-GREAT,)))))

    def test_drawn_sheets_are_read_back(self):
        draw = Random(1)
        for at in range(120):
            high = draw.choice((0, 1, 12, 10 ** 6, GREAT))
            sheet = drawn_sheet(draw, "sum", drawn_sizes(draw, 1 + at % 12), draw.randint(0, 6), 3, high)
            self.told(text_by_hand(sheet), sheet_text, sheet)
            self.told(sheet, read_sheet, text_by_hand(sheet))

    def test_sheets_at_their_bounds(self):
        for sheet in at_the_bounds():
            self.assertTrue(is_sheet(sheet))
            self.told(text_by_hand(sheet), sheet_text, sheet)
            self.told(sheet, read_sheet, text_by_hand(sheet))

    def test_numbers_of_any_length(self):
        # What is told may be handed in, also where its numbers are greater than told, and written.
        part = ((), (-GREAT - 7,))
        for _ in range(11):
            sheet = ((2,), (part, ((0,), (0, part[1][0]))))
            # Held without Python's own writing of numbers, which ends at some thousand figures.
            text = sheet_text(sheet)
            self.assertEqual(sheet, ((2,), (part, ((0,), (0, part[1][0])))))
            self.assertEqual(sheet_text(sheet), text)
            words = text.split(" ")
            self.assertEqual(words[:3] + words[4:-1], ["2", "/", ":", "/", "0", ":", "0"])
            self.assertEqual(words[3], words[-1])
            self.assertRegex(words[3], "^-?[1-9][0-9]*$")
            self.assertEqual(read_long(words[3]), part[1][0])
            self.refused_at(3, text)
            part = joined("sum", (2,), part, part)
        self.assertGreater(len(words[3]), 4300)

    def test_zeros_within_long_numbers(self):
        for number in (10 ** 59, 10 ** 60, 10 ** 60 - 1, 10 ** 60 + 1, 10 ** 120, 10 ** 121 + 10 ** 60, -10 ** 180 - 5):
            self.told(f"1 / : {number}", sheet_text, ((1,), (((), (number,)),)))


class Read(TextCase):
    def held(self, text):
        """The text is read as its sheet, or refused at the word that the document's sentence tells."""
        at, words = first_wrong(text), text.split(" ")
        sheet = begun(words)
        if sheet is not None and text_by_hand(sheet) == text:
            self.told(sheet, read_sheet, text)
        else:
            self.refused_at(at, text)
            # All words ahead of it do begin some sheet's text.
            if 0 < at:
                longer = text_by_hand(begun(words[:at]))
                self.assertEqual(longer.split(" ")[:at], words[:at])
                self.assertTrue(is_sheet(read_sheet(longer)))

    def test_written_refusals(self):
        for at, text in (
            (0, ""), (0, " "), (0, "/"), (0, ":"), (0, "0"), (0, "5"), (0, "-1"), (0, "02"), (0, "+2"), (0, "2\t3"),
            (0, "2\n"), (0, "\n2"), (0, " 2"), (1, "2 "), (1, "2  3"), (1, "2 5"), (1, "2 0"), (1, "2 :"), (1, "2 x"),
            (2, "2 3 -"), (3, "2 3 /"), (3, "2 3 / "), (3, "2 3 / /"), (3, "2 3 / 2"), (3, "2 3 / -0"), (3, "2 3 / 00"),
            (4, "2 3 / 0"), (4, "2 3 / 0 0"), (4, "2 3 / 1 0"), (4, "2 3 / 0 /"), (5, "2 3 / 0 :"), (5, "2 3 / 0 : "),
            (5, "2 3 / 0 : :"), (6, "2 3 / 0 : 1"), (6, "2 3 / 0 : 1 /"), (6, "2 3 / 0 : 1 "), (7, "2 3 / 0 : 1 2 3"),
            (7, "2 3 / 0 : 1 2 :"), (7, "2 3 / 0 : 1 2 "), (8, "2 3 / 0 : 1 2 /"), (5, "2 3 / 0 : -0 1"),
            (5, "2 3 / 0 : 01 1"), (5, "2 3 / 0 : +1 1"), (5, "2 3 / 0 : - 1"), (5, "2 3 / 0 : --1 1"),
            (5, "2 3 / 0 : 1000000000001 1"), (6, "2 3 / 0 : 1 -1000000000001"), (5, "2 3 / 0 : 1,2"),
            (3, "2 / : 1.0"), (3, "2 / : 1e3"), (3, "2 / : 1_0"), (3, "2 / : 0x1"), (4, "2 / : 1 2"), (2, "2 / 1 : 1"),
            (1, "2 // : 1"), (1, "2 /: 1"), (2, "2 / :1"), (3, "2 / :"), (0, "2/ : 1"),
        ):
            self.refused_at(at, text)
            self.assertEqual(first_wrong(text), at, text)

    def test_too_many_names_and_fillings(self):
        self.refused_at(12, " ".join(["1"] * 13))
        self.refused_at(12, " ".join(["1"] * 13 + ["/", ":", "1"]))
        self.refused_at(11, " ".join(["2"] * 12))
        self.refused_at(5, "4 4 4 4 4 4")
        self.refused_at(5, "4 4 4 4 4 4 1 1")
        self.refused_at(7, "4 4 3 3 3 3 3 2")
        self.held("4 4 3 3 3 3 3 1 1 1 1 1")

    def test_too_many_parts(self):
        self.held("2" + " / : 1" * 24)
        self.refused_at(73, "2" + " / : 1" * 25)
        self.refused_at(73, "2" + " / : 1" * 24 + " /")
        self.refused_at(73, "2" + " / : 1" * 24 + " / x")

    def test_too_many_worths(self):
        for sheet in at_the_bounds():
            if sum(len(worths) for names, worths in sheet[1]) == 2000:
                text = text_by_hand(sheet)
                many = len(text.split(" "))
                # No part goes behind two thousand worths: the stroke is refused, not what is behind it.
                for behind in (" /", " / :", " / : 1", " / 0 : 1 2 3 4"):
                    self.refused_at(many, text + behind)
                    self.held(text + behind)
        sizes, parts = at_the_bounds()[5]
        text = text_by_hand((sizes, parts[:3]))
        many = len(text.split(" "))
        # Sixteen worths are left: two names of four worths have as many, a third one has too many.
        self.refused_at(many + 4, text + " / 0 1 :")
        self.refused_at(many + 3, text + " / 0 1 2 : 1 1 1")
        self.refused_at(many + 3, text + " / 0 1 5 :")
        self.refused_at(many + 6, text + " / 0 : 1 2 3")
        for behind in (" / 0 1 :", " / 0 1 2 : 1", " / 0 5 : 1", " / 0 : 1 2 3 4 / 0 1 : 1", " / 0 : 1 2 3 4 / 0 5 : 1"):
            self.held(text + behind)
        # Names of one worth make no more of them.
        self.held("1 1 4 4 4 4 4" + " / 2 3 4 5 6 : " + " ".join(["0"] * 1024) + " / 0 1 2 3 4 5 : 1")
        self.held("1 4 4 4 4 4" + " / 1 2 3 4 5 : " + " ".join(["0"] * 1024) + " / 1 2 3 4 5 : 1")

    def test_figures_without_end(self):
        for figures in ("1" * 4301, "9" * 5900, "0" * 5000, "1" + "0" * 4400, "-" + "7" * 5000):
            self.refused_at(0, figures)
            self.refused_at(1, "2 " + figures)
            self.refused_at(2, "2 / " + figures)
            self.refused_at(3, "2 / : " + figures)
            self.refused_at(4, "2 / : 1 " + figures)
            self.refused_at(5, "2 / 0 : 1 " + figures)

    def test_words_left_out_put_in_exchanged_twice_and_cut_off(self):
        draw = Random(2)
        texts = [TEXT, "2 / : 1", "3 1 2", "2 2 / 0 : 1 2 / 1 : -3 4 / 0 1 : 0 0 1 10"]
        for at in range(4):
            texts.append(text_by_hand(drawn_sheet(draw, "sum", drawn_sizes(draw, 2 + at, 3), 3, 2, 11)))
        put_in = ["", "/", ":", "0", "1", "2", "3", "-1", "-0", "05", "+1", "5", "12", "x", "\t", "\n", "1000000000001"]
        for text in texts:
            words = text.split(" ")
            for at in range(len(words) + 1):
                self.held(" ".join(words[:at]))
                for word in put_in:
                    self.held(" ".join(words[:at] + [word] + words[at:]))
                    self.held(" ".join(words[:at] + [word] + words[at + 1:]))
                self.held(" ".join(words[:at] + words[at + 1:]))
                self.held(" ".join(words[:at] + words[at:at + 1] + words[at:]))
                self.held(" ".join(words[:at] + words[at + 1:at + 2] + words[at:at + 1] + words[at + 2:]))

    def test_signs_left_out_and_put_in(self):
        for text in (TEXT, "2 2 / 0 1 : 10 -2 0 4"):
            for at in range(len(text) + 1):
                self.held(text[:at])
                for sign in " \t\n/:-0+1x~":
                    self.held(text[:at] + sign + text[at:])
                self.held(text[:at] + text[at + 1:])

    def test_drawn_words(self):
        draw = Random(3)
        for _ in range(3000):
            words = draw.choices(["1", "2", "/", ":", "0", "3", "-4", ""], (6, 6, 4, 4, 4, 2, 1, 0.2), k=draw.randint(0, 12))
            self.held(" ".join(["2"] * draw.randint(0, 2) + words))

    def test_all_texts_of_a_few_words(self):
        texts = [[]]
        for _ in range(5):
            texts = [words + [word] for words in texts for word in ("1", "2", "/", ":", "0")]
            for words in texts:
                self.held(" ".join(words))

    def test_names(self):
        for names in ("1 0", "0 0", "1 1", "0 2", "2", "-1", "0 1 1", "0 1 2", "00", "0 01", "+0", "12", "999", "0 0 1"):
            self.held(f"2 3 / {names} : 1 2 3 4 5 6")

    def test_figures_of_other_writings_are_none(self):
        for sign in ("\u0662", "\u00b2", "\uff12"):
            for at, text in ((0, sign), (2, "2 / " + sign), (3, "2 / : " + sign), (3, "2 / : -" + sign)):
                self.refused_at(at, text)

    def test_other_things_are_no_texts(self):
        for thing in any_things():
            if not isinstance(thing, str):
                with self.assertRaises(NoText) as caught:
                    read_sheet(thing)
                self.assertEqual(type(caught.exception), NoText)
                self.assertEqual(type(caught.exception.at), int)


if __name__ == "__main__":
    unittest.main()
