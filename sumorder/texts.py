"""Sheets written as texts, and texts read as sheets."""

from sumorder.errors import NoText
from sumorder.helper import is_figures, is_signed_figures, room
from sumorder.sheets import is_part, is_sheet

CHUNK = 10 ** 60
MOST_FIGURES = 13


def figures(number):
    """Tell the number by figures, however many."""
    # Python does not write numbers of some thousand figures at once.
    left, behind = abs(number), ""
    while left >= CHUNK:
        left, low = divmod(left, CHUNK)
        behind = str(low).zfill(60) + behind
    sign = "-" if number < 0 else ""
    return sign + str(left) + behind


def sheet_text(sheet):
    """Tell the sheet's text: the sizes, then each part behind a stroke, its worths behind a colon."""
    sizes, parts = sheet
    words = [figures(size) for size in sizes]
    for names, worths in parts:
        words = words + ["/"] + [figures(name) for name in names] + [":"] + [figures(worth) for worth in worths]
    return " ".join(words)


def least_part(sizes, names):
    """Tell a part of these names."""
    return (names, (0,) * room(sizes, names))


def read_sizes(words):
    """Tell the sizes that the words begin with; NoText at the first word by which there are none."""
    sizes = ()
    for at, word in enumerate(words):
        if sizes and word == "/":
            return sizes
        if not is_figures(word, MOST_FIGURES) or not is_sheet((sizes + (int(word),), ())):
            raise NoText(at)
        sizes = sizes + (int(word),)
    return sizes


def read_names(words, at, sizes, parts):
    """Tell the names of a part behind these, from word at on to the colon; NoText."""
    names = ()
    # Even without further names the part needs its worths, so here they may be too many.
    if not is_sheet((sizes, parts + (least_part(sizes, names),))):
        raise NoText(at - 1)
    for behind, word in enumerate(words[at:]):
        if word == ":":
            return names
        if not is_figures(word, MOST_FIGURES) or not 0 <= int(word) < len(sizes):
            raise NoText(at + behind)
        names = names + (int(word),)
        if not is_sheet((sizes, parts + (least_part(sizes, names),))):
            raise NoText(at + behind)
    raise NoText(len(words))


def read_worths(words, at, many):
    """Tell so many worths from word at on; NoText."""
    told = []
    for behind, word in enumerate(words[at:at + many]):
        if not is_signed_figures(word, MOST_FIGURES) or not is_part((), ((), (int(word),))):
            raise NoText(at + behind)
        told.append(int(word))
    if len(told) < many:
        raise NoText(len(words))
    return tuple(told)


def read_sheet(text):
    """Tell the sheet that a text is of; NoText at the first word by which it is none."""
    if not isinstance(text, str):
        raise NoText(0)
    words = text.split(" ")
    sizes = read_sizes(words)
    at, parts = len(sizes), ()
    while at < len(words):
        if words[at] != "/":
            raise NoText(at)
        names = read_names(words, at + 1, sizes, parts)
        worths = read_worths(words, at + 2 + len(names), room(sizes, names))
        parts = parts + ((names, worths),)
        at += 2 + len(names) + len(worths)
    return (sizes, parts)
