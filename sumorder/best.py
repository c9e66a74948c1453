"""Best fillings, how many there are, and the bounds that offers give."""

from sumorder.errors import NoDeeds, NoOffers
from sumorder.helper import (
    are_names, filling_there, gathered_all, is_number, is_pair, joined_parts, own_parts, part_of_all, room,
    steps_to, tied_bags,
)


def worths_to_choose(word, sheet):
    """Tell the worths of all fillings, in their sorted order; NoDeeds of "sum"."""
    if word == "sum":
        raise NoDeeds("a sum is no filling's worth")
    return list(part_of_all(word, sheet)[1])


def best_of(word, worths):
    """Tell the best of the worths."""
    return min(worths) if word == "least" else max(worths)


def best(word, sheet):
    """Tell (worth, filling): the whole and a filling that has it; NoDeeds of "sum"."""
    worths = worths_to_choose(word, sheet)
    worth = best_of(word, worths)
    return (worth, filling_there(sheet[0], worths.index(worth)))


def how_many_best(word, sheet):
    """Tell how many fillings have the whole; NoDeeds of "sum"."""
    worths = worths_to_choose(word, sheet)
    return worths.count(best_of(word, worths))


def is_offered_part(sizes, names, thing):
    """Tell of anything whether it is a part of some of these names, of any whole numbers."""
    if not is_pair(thing) or not are_names(sizes, thing[0]) or not isinstance(thing[1], tuple):
        return False
    if not all(name in names for name in thing[0]) or len(thing[1]) != room(sizes, thing[0]):
        return False
    return all(is_number(worth) for worth in thing[1])


def is_offer(sizes, bags, way, thing):
    """Tell of anything whether it is an offer on this way, a pair of bags' numbers."""
    if not isinstance(thing, tuple) or len(thing) != 3:
        return False
    i, j, part = thing
    if not is_number(i) or not is_number(j) or (i, j) != way:
        return False
    both = tuple(name for name in bags[i] if name in bags[j])
    return is_offered_part(sizes, both, part)


def are_offers(sizes, tree, thing):
    """Tell of anything whether it is a list of offers, one for each bag but bag 0."""
    ways = sorted(steps_to(tied_bags(tree), 0).items())
    if not isinstance(thing, list) or len(thing) != len(ways):
        return False
    return all(is_offer(sizes, tree[0], way, offer) for way, offer in zip(ways, thing))


def turned(part):
    """Tell the part that takes this one away where it is joined by plus."""
    names, worths = part
    return (names, tuple(-worth for worth in worths))


def bound_by(word, sheet, tree, offers):
    """Tell the bound of offers: no filling is better; NoDeeds but of "most" and "least", then NoOffers."""
    if word not in ("most", "least"):
        raise NoDeeds("no deeds that join by plus")
    sizes = sheet[0]
    if not are_offers(sizes, tree, offers):
        raise NoOffers("no list of offers, one for each bag but bag 0")
    shifting = [[own] for own in own_parts(word, sheet, tree)]
    for i, j, part in offers:
        shifting[j].append(part)
        shifting[i].append(turned(part))
    return sum(gathered_all(word, sizes, joined_parts(word, sizes, parts)) for parts in shifting)
