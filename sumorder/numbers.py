"""Fillings numbered by their weight: each has as many numbers as its worth by "sum"."""

from sumorder.errors import NoFilling, NoName, NoNumber, NoWeights
from sumorder.helper import all_names, filling_there, is_filling, is_name, is_whole, part_of_all, place_of, places


def weights(sheet):
    """Tell the weights of all fillings, in their sorted order; NoWeights where one is below 0."""
    told = part_of_all("sum", sheet)[1]
    if min(told) < 0:
        raise NoWeights("a filling whose worth is below 0")
    return told


def filling_at(sheet, number):
    """Tell the filling with this number; NoWeights, then NoNumber."""
    told = weights(sheet)
    if not is_whole(number, 0, sum(told) - 1):
        raise NoNumber("no number from 0 below the whole")
    at, left = 0, number
    while left >= told[at]:
        left -= told[at]
        at += 1
    return filling_there(sheet[0], at)


def number_of(sheet, filling):
    """Tell the first number that the filling has or would have; NoFilling, then NoWeights."""
    sizes = sheet[0]
    if not is_filling(sizes, filling):
        raise NoFilling("no filling of this sheet")
    return sum(weights(sheet)[:place_of(sizes, all_names(sizes), filling)])


def common(one, other):
    """Tell the greatest number that goes into both, from 0 on and not both 0."""
    great, small = one, other
    while small:
        great, small = small, great % small
    return great


def share_of(sheet, name, worth):
    """Tell the share of the name's worth as a fraction; NoName, then NoFilling, then NoWeights."""
    sizes = sheet[0]
    if not is_name(sizes, name):
        raise NoName("no name")
    if not is_whole(worth, 0, sizes[name] - 1):
        raise NoFilling("no worth of this name")
    told = weights(sheet)
    bottom = sum(told)
    if bottom == 0:
        raise NoWeights("all fillings weigh nought")
    top = sum(weight for weight, at in zip(told, places(sizes, (name,), all_names(sizes))) if at == worth)
    shared = common(top, bottom)
    return (top // shared, bottom // shared)
