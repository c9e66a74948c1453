"""The whole of a sheet, and the rest of some of its names."""

from sumorder.errors import NoName
from sumorder.helper import are_names, gathered_to, part_of_all


def whole(word, sheet):
    """Tell the worths of all fillings, gathered."""
    return rest(word, sheet, ())[1][0]


def rest(word, sheet, names):
    """Tell the part with these names, gathered over all fillings that have its worths; else NoName."""
    sizes = sheet[0]
    if not are_names(sizes, names):
        raise NoName("no rising tuple of names")
    return gathered_to(word, sizes, part_of_all(word, sheet), names)
