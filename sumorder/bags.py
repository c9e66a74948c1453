"""Trees of bags: which are right for a sheet, the one by an order, and their room."""

from sumorder.errors import NoName
from sumorder.helper import are_names, is_order_of_all, is_pair, is_rising, is_whole, room
from sumorder.orders import bags_of

MOST_BAGS = 12


def are_bags(sizes, thing):
    """Tell of anything whether it is the bags of a tree."""
    if not isinstance(thing, tuple) or not 1 <= len(thing) <= MOST_BAGS:
        return False
    return all(are_names(sizes, bag) for bag in thing)


def is_tie(many, thing):
    """Tell of anything whether it is a pair of numbers of so many bags, the first one less."""
    if not is_pair(thing) or not is_whole(thing[1], 0, many - 1):
        return False
    return is_whole(thing[0], 0, thing[1] - 1)


def hang_together(numbers, ties):
    """Tell whether these bags, one or more, hang together by ties between them."""
    between = [(i, j) for i, j in ties if i in numbers and j in numbers]
    reached = {numbers[0]: True}
    # Each turn comes to a further bag, if there is any to come to.
    for turn in numbers:
        for i, j in between:
            if i in reached or j in reached:
                reached[i] = True
                reached[j] = True
    return len(reached) == len(numbers)


def are_ties(many, thing):
    """Tell of anything whether it is the ties of a tree of so many bags."""
    if not isinstance(thing, tuple) or len(thing) != many - 1:
        return False
    if not all(is_tie(many, tie) for tie in thing):
        return False
    return is_rising(thing) and hang_together(list(range(many)), thing)


def has_place(bags, names):
    """Tell whether the names stand together in some bag."""
    return any(all(name in bag for name in names) for bag in bags)


def is_held(bags, ties, name):
    """Tell whether the name is in some bag, and those that have it hang together."""
    holding = [at for at, bag in enumerate(bags) if name in bag]
    return len(holding) > 0 and hang_together(holding, ties)


def is_bag_tree(sheet, thing):
    """Tell of anything whether it is a tree of bags that is right for the sheet."""
    sizes, parts = sheet
    if not is_pair(thing):
        return False
    bags, ties = thing
    if not are_bags(sizes, bags) or not are_ties(len(bags), ties):
        return False
    if not all(has_place(bags, names) for names, worths in parts):
        return False
    return all(is_held(bags, ties, name) for name in range(len(sizes)))


def next_bag(order, bags, at):
    """Tell the number of the bag behind it that a bag of an order, not the last one, is tied to."""
    # A bag's other names all come behind its own one in the order.
    others = [behind for behind, name in enumerate(order) if behind > at and name in bags[at]]
    return others[0] if others else at + 1


def bag_tree(sheet, order):
    """Tell the tree of bags by an order of all names; else NoName."""
    if not is_order_of_all(sheet[0], order):
        raise NoName("no order of all names")
    bags = bags_of(sheet, order)
    ties = [(at, next_bag(order, bags, at)) for at in range(len(bags) - 1)]
    return (tuple(bags), tuple(ties))


def tree_room(sheet, tree):
    """Tell the greatest room of the tree's bags."""
    return max([room(sheet[0], bag) for bag in tree[0]])
