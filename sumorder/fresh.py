"""Orders that tie no two names anew, or rings that show that there is none."""

from sumorder.helper import bag_along, bags_along, is_order, is_order_of_all, is_pair, pairs_of, ties_of

FEWEST_IN_RING = 4


def are_all_tied(ties, names):
    """Tell whether these names are all tied by parts, two and two."""
    return all(other in ties[one] for one, other in pairs_of(names))


def fresh_order(ties):
    """Tell an order that ties none anew, as far as there is one: else it lacks some names."""
    # Where any such order is, each name that may go first begins one, so none is taken back.
    order = ()
    for turn in range(len(ties)):
        left = [name for name in range(len(ties)) if name not in order]
        fit = [name for name in left if are_all_tied(ties, bag_along(ties, order, name))]
        if not fit:
            return order
        order = order + (fit[0],)
    return order


def way_around(ties, middle, first, last):
    """Tell a shortest way of ties from first to last by names not tied to the middle, () if none."""
    ways = [(first,)]
    reached = {name: True for name in ties[middle] + (middle, first) if name != last}
    while ways:
        longer = []
        for way in ways:
            if way[-1] == last:
                return way
            for name in ties[way[-1]]:
                if name not in reached:
                    reached[name] = True
                    longer.append(way + (name,))
        ways = longer
    return ()


def found_ring(ties):
    """Tell a ring, () if there is none."""
    # Two names beside the middle that aren't tied need others to come together, and a
    # shortest way has no tie across.
    for middle in range(len(ties)):
        for first, last in pairs_of(ties[middle]):
            if last not in ties[first]:
                way = way_around(ties, middle, first, last)
                if way:
                    return (middle,) + way
    return ()


def no_new_ties(sheet):
    """Tell ("order", order) that ties none anew, or ("ring", names) where there is none."""
    ties = ties_of(sheet)
    order = fresh_order(ties)
    if len(order) == len(ties):
        return ("order", order)
    return ("ring", found_ring(ties))


def is_ring(ties, names):
    """Tell of unlike names whether they are tied as a ring alone."""
    many = len(names)
    if many < FEWEST_IN_RING:
        return False
    for at, one in enumerate(names):
        for far in range(1, many):
            beside = far in (1, many - 1)
            if (names[(at + far) % many] in ties[one]) != beside:
                return False
    return True


def is_no_new(sheet, thing):
    """Tell of anything whether it is an order that ties none anew, or a ring, with its word."""
    sizes = sheet[0]
    if not is_pair(thing):
        return False
    word, names = thing
    ties = ties_of(sheet)
    if word == "order":
        if not is_order_of_all(sizes, names):
            return False
        return all(are_all_tied(ties, bag) for bag in bags_along(ties, names))
    return word == "ring" and is_order(sizes, names) and is_ring(ties, names)
