"""The least room of all orders, an order that has it, and floors that show that none has less."""

from sumorder.errors import TooMany
from sumorder.helper import (
    all_names, are_names, bag_along, is_number, is_pair, room, ties_of, without,
)

MOST_NAMES = 8


def refuse_too_many(sheet):
    """Raise TooMany of a sheet that has more names than are reckoned with."""
    if len(sheet[0]) > MOST_NAMES:
        raise TooMany("more than eight names")


def rising_tuples(many):
    """Tell all rising tuples of so many names, each behind those that lack one of its names."""
    told = [()]
    for name in range(many):
        told = told + [names + (name,) for names in told]
    return told


def caps(sheet, ties, numbers, names):
    """Tell, for each of the names, a number that theirs is not above, and the name."""
    # Where this name is the last of them, its bag and those of the others are all there are.
    told = []
    for name in names:
        others = without(names, name)
        told.append((max(numbers[others], room(sheet[0], bag_along(ties, others, name))), name))
    return told


def least_room(sheet):
    """Tell (room, order, floors): the least room, an order that has it, and floors; else TooMany."""
    refuse_too_many(sheet)
    everything = all_names(sheet[0])
    ties = ties_of(sheet)
    numbers, lasts = {(): 1}, {}
    for names in rising_tuples(len(everything))[1:]:
        numbers[names], lasts[names] = min(caps(sheet, ties, numbers, names))
    order, left = (), everything
    while left:
        order = (lasts[left],) + order
        left = without(left, lasts[left])
    return (numbers[everything], order, sorted(numbers.items()))


def is_floor(sizes, thing):
    """Tell of anything whether it is a rising tuple of names with a number."""
    return is_pair(thing) and are_names(sizes, thing[0]) and is_number(thing[1])


def are_all_once(sizes, thing):
    """Tell of anything whether it is a sorted list with a number for each rising tuple of names."""
    expected = sorted(rising_tuples(len(sizes)))
    if not isinstance(thing, list) or len(thing) != len(expected):
        return False
    return all(is_floor(sizes, floor) for floor in thing) and [names for names, number in thing] == expected


def are_floors(sheet, thing, number):
    """Tell of anything whether it is floors by which all names have this number; TooMany ahead."""
    refuse_too_many(sheet)
    sizes = sheet[0]
    if not are_all_once(sizes, thing) or not is_number(number):
        return False
    numbers = {names: low for names, low in thing}
    if numbers[()] > 1 or numbers[all_names(sizes)] != number:
        return False
    ties = ties_of(sheet)
    return all(low <= cap for names, low in thing for cap, name in caps(sheet, ties, numbers, names))
