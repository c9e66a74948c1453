"""Orders: bags told without any worths, rooms, and orders that always take what is least."""

from sumorder.errors import NoName
from sumorder.helper import (
    are_names, bag_along, bags_along, is_name, is_order, is_order_of_all, pairs_of, room, ties_of, tied_pairs,
)


def bag_behind(sheet, taken, name):
    """Tell the name's bag behind a rising tuple of others that were taken out; else NoName."""
    sizes = sheet[0]
    if not are_names(sizes, taken):
        raise NoName("no rising tuple of names")
    if not is_name(sizes, name) or name in taken:
        raise NoName("no name that isn't taken out")
    return bag_along(ties_of(sheet), taken, name)


def bags_of(sheet, order):
    """Tell the bags of an order, one for each of its names; else NoName."""
    if not is_order(sheet[0], order):
        raise NoName("no tuple of unlike names")
    return bags_along(ties_of(sheet), order)


def room_of(sheet, order):
    """Tell the greatest room of the bags of an order of all names; else NoName."""
    sizes = sheet[0]
    if not is_order_of_all(sizes, order):
        raise NoName("no order of all names")
    return max([room(sizes, bag) for bag in bags_of(sheet, order)])


def least_by(sheet, cost):
    """Tell the order that always takes the name whose bag costs least, of like ones the least."""
    ties = ties_of(sheet)
    tied = {pair: True for pair in tied_pairs(ties)}
    order = ()
    while len(order) < len(ties):
        bags = {name: bag_along(ties, order, name) for name in range(len(ties)) if name not in order}
        least = min([(cost(bag, tied), name) for name, bag in bags.items()])[1]
        for pair in pairs_of(bags[least]):
            tied[pair] = True
        order = order + (least,)
    return order


def by_fewest(sheet):
    """Tell the order that always takes the name whose bag has fewest names."""
    return least_by(sheet, lambda bag, tied: len(bag))


def by_room(sheet):
    """Tell the order that always takes the name whose bag has the least room."""
    sizes = sheet[0]
    return least_by(sheet, lambda bag, tied: room(sizes, bag))


def by_ties(sheet):
    """Tell the order that always takes the name whose bag has the fewest pairs that aren't tied yet."""
    return least_by(sheet, lambda bag, tied: len([pair for pair in pairs_of(bag) if pair not in tied]))
