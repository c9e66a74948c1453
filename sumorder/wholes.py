"""The whole of a sheet, and the rest of some of its names."""

from sumorder.errors import NoName
from sumorder.helper import all_names, are_names, joined_parts
from sumorder.joins import gathered, widened


def whole(word, sheet):
    """Tell the worths of all fillings, gathered."""
    return rest(word, sheet, ())[1][0]


def rest(word, sheet, names):
    """Tell the part with these names, gathered over all fillings that have its worths; else NoName."""
    sizes, parts = sheet
    if not are_names(sizes, names):
        raise NoName("no rising tuple of names")
    told = widened(sizes, joined_parts(word, sizes, parts), all_names(sizes))
    for name in all_names(sizes):
        if name not in names:
            told = gathered(word, sizes, told, name)
    return told
