"""Sheets: which things are sheets and parts, and what a filling is worth."""

from sumorder.deeds import joined_worths, product
from sumorder.errors import NoFilling
from sumorder.helper import are_names, is_filling, is_pair, is_whole, place_of, room

MOST_NAMES = 12
GREATEST_SIZE = 4
MOST_FILLINGS = 4000
MOST_PARTS = 24
MOST_WORTHS = 2000
GREATEST_WORTH = 10 ** 12


def are_sizes(thing):
    """Tell of anything whether it is the sizes of a sheet."""
    if not isinstance(thing, tuple) or not 1 <= len(thing) <= MOST_NAMES:
        return False
    if not all(is_whole(size, 1, GREATEST_SIZE) for size in thing):
        return False
    return product(thing) <= MOST_FILLINGS


def are_worths(many, thing):
    """Tell of anything whether it is a tuple of so many worths of a part."""
    if not isinstance(thing, tuple) or len(thing) != many:
        return False
    return all(is_whole(worth, -GREATEST_WORTH, GREATEST_WORTH) for worth in thing)


def is_part(sizes, thing):
    """Tell of anything whether it is a part for these sizes."""
    if not is_pair(thing):
        return False
    names, worths = thing
    if not are_names(sizes, names):
        return False
    return are_worths(room(sizes, names), worths)


def are_parts(sizes, thing):
    """Tell of anything whether it is the parts of a sheet with these sizes."""
    if not isinstance(thing, tuple) or len(thing) > MOST_PARTS:
        return False
    if not all(is_part(sizes, part) for part in thing):
        return False
    return sum(len(part[1]) for part in thing) <= MOST_WORTHS


def is_sheet(thing):
    """Tell of anything whether it is a sheet."""
    if not is_pair(thing):
        return False
    sizes, parts = thing
    return are_sizes(sizes) and are_parts(sizes, parts)


def worth_of(word, sheet, filling):
    """Tell the filling's worth: all parts' worths there, joined; else NoFilling."""
    sizes, parts = sheet
    if not is_filling(sizes, filling):
        raise NoFilling("no filling of this sheet")
    return joined_worths(word, [worths[place_of(sizes, names, filling)] for names, worths in parts])
