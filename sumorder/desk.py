"""A desk: it is told rows about a sheet and answers with texts."""

from sumorder.bags import bag_tree
from sumorder.best import best
from sumorder.errors import NoDeeds, NoRow
from sumorder.helper import all_names, exchanged, is_figures, is_signed_figures, room, settled_part
from sumorder.keeper import Keeper
from sumorder.texts import read_sheet

WORDS = ("sum", "most", "least", "wide", "any")
SHORT = 3
LONG = 13


def refuse_row(words, fewest, most):
    """Raise NoRow where there are fewer or more words than these."""
    if not fewest <= len(words) <= most:
        raise NoRow("a row of fewer or more words")


def short_numbers(words):
    """Tell the numbers that the words are; NoRow where one is none or has more than three figures."""
    if not all(is_figures(word, SHORT) for word in words):
        raise NoRow("a word that is no short number")
    return tuple(int(word) for word in words)


def worths_told(words):
    """Tell the worths that the words are; NoRow where one is none or has more than thirteen figures."""
    if not all(is_signed_figures(word, LONG) for word in words):
        raise NoRow("a word that is no worth")
    return tuple(int(word) for word in words)


def listed(numbers):
    """Tell the numbers parted by commas."""
    return ",".join([str(number) for number in numbers])


def take_deeds(desk, words):
    """Let another word stand; NoDeeds where the worths don't fit it."""
    refuse_row(words, 1, 1)
    word = words[0]
    if word not in WORDS:
        raise NoRow("no word of deeds")
    if word == "any" and not all(worth in (0, 1) for names, worths in desk.parts for worth in worths):
        raise NoDeeds("a worth that is neither 0 nor 1")
    desk.begin(word, (desk.sizes, desk.parts), desk.tree)
    return "ok"


def take_order(desk, words):
    """Let the tree by another order stand; NoName where it is none of all names."""
    refuse_row(words, 1, len(words))
    order = short_numbers(words)
    sheet = (desk.sizes, desk.parts)
    desk.begin(desk.word, sheet, bag_tree(sheet, order))
    return "ok"


def tell_whole(desk, words):
    """Tell the whole."""
    refuse_row(words, 0, 0)
    return str(desk.keeper.whole())


def tell_rest(desk, words):
    """Tell a bag's rest: its names that aren't settled, and the worths."""
    refuse_row(words, 1, 1)
    names, worths = desk.keeper.rest(short_numbers(words)[0])
    ahead = listed(names) + " " if names else ""
    return ahead + ": " + listed(worths)


def take_put(desk, words):
    """Give a part other worths."""
    refuse_row(words, 2, len(words))
    k, worths = short_numbers(words[:1])[0], worths_told(words[1:])
    desk.keeper.put(k, worths)
    desk.change(exchanged(desk.parts, k, (desk.parts[k][0], worths)), desk.fixed)
    return "ok"


def take_settle(desk, words):
    """Settle a name at a worth."""
    refuse_row(words, 2, 2)
    name, worth = short_numbers(words)
    desk.keeper.settle(name, worth)
    desk.change(desk.parts, exchanged(desk.fixed, name, worth))
    return "ok"


def take_free(desk, words):
    """Free a settled name."""
    refuse_row(words, 1, 1)
    name = short_numbers(words)[0]
    desk.keeper.free(name)
    desk.change(desk.parts, exchanged(desk.fixed, name, None))
    return "ok"


def take_back(desk, words):
    """Undo the last change that stands."""
    refuse_row(words, 0, 0)
    desk.keeper.back()
    desk.parts, desk.fixed = desk.past.pop()
    return "ok"


def tell_best(desk, words):
    """Tell the best worth of the fillings that have what is settled, and one that has it."""
    refuse_row(words, 0, 0)
    # A settled name is one of a single worth; no part has it any more.
    sizes = tuple(size if worth is None else 1 for size, worth in zip(desk.sizes, desk.fixed))
    parts = tuple(settled_part(desk.sizes, part, desk.fixed) for part in desk.parts)
    told, filling = best(desk.word, (sizes, parts))
    whole_filling = [at if worth is None else worth for at, worth in zip(filling, desk.fixed)]
    return str(told) + " " + listed(whole_filling)


def tell_rooms(desk, words):
    """Tell the bags' rooms."""
    refuse_row(words, 0, 0)
    return listed([room(desk.sizes, bag) for bag in desk.tree[0]])


def tell_letters(desk, words):
    """Tell how many letters were reckoned by the keeper that stands."""
    refuse_row(words, 0, 0)
    return str(desk.keeper.reckoned())


ROWS = {
    "deeds": take_deeds, "order": take_order, "whole": tell_whole, "rest": tell_rest, "put": take_put,
    "settle": take_settle, "free": take_free, "back": take_back, "best": tell_best, "rooms": tell_rooms,
    "letters": tell_letters,
}


class Desk:
    """A sheet that stands, with its deeds, its tree and a keeper, told of by rows."""

    def __init__(self):
        self.word = "sum"
        self.sizes = ()
        self.parts = ()
        self.tree = None
        self.keeper = None
        self.fixed = ()
        self.past = []

    def begin(self, word, sheet, tree):
        """Let the word, the sheet and the tree stand, no name settled, with a new keeper."""
        self.keeper = Keeper(word, sheet, tree)
        self.word = word
        self.sizes = sheet[0]
        self.parts = sheet[1]
        self.tree = tree
        self.fixed = (None,) * len(sheet[0])
        self.past = []

    def change(self, parts, fixed):
        """Let these parts and settled names stand, by a change that can be undone."""
        self.past.append((self.parts, self.fixed))
        self.parts = parts
        self.fixed = fixed

    def say(self, row):
        """Answer the row with a text; NoRow where it is none, else refused as the points tell."""
        if not isinstance(row, str):
            raise NoRow("no text")
        words = row.split(" ")
        if words[0] == "sheet" and len(words) > 1:
            sheet = read_sheet(row[len("sheet "):])
            self.begin("sum", sheet, bag_tree(sheet, all_names(sheet[0])))
            return "ok"
        if self.keeper is None or words[0] not in ROWS:
            raise NoRow("no row by its first word, or no sheet stands")
        answer = ROWS[words[0]]
        return answer(self, words[1:])
