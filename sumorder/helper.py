"""What several stages need: kinds of things, tables of worths, ties between names."""

from sumorder.deeds import joined_worths, product


def is_number(thing):
    """Tell of anything whether it is a whole number."""
    # Python counts truths as integers, the document does not.
    return isinstance(thing, int) and not isinstance(thing, bool)


def is_whole(thing, low, high):
    """Tell of anything whether it is a whole number from low to high."""
    return is_number(thing) and low <= thing <= high


def is_pair(thing):
    """Tell of anything whether it is a tuple of two."""
    return isinstance(thing, tuple) and len(thing) == 2


def is_rising(things):
    """Tell of things that can be compared whether each is less than the next."""
    return all(one < other for one, other in zip(things, things[1:]))


def is_name(sizes, thing):
    """Tell of anything whether it is a name."""
    return is_whole(thing, 0, len(sizes) - 1)


def is_tuple_of_names(sizes, thing):
    """Tell of anything whether it is a tuple of names, in any order, perhaps some twice."""
    return isinstance(thing, tuple) and all(is_name(sizes, name) for name in thing)


def are_names(sizes, thing):
    """Tell of anything whether it is a rising tuple of names."""
    # The kinds go first: only numbers can be compared without an error.
    return is_tuple_of_names(sizes, thing) and is_rising(thing)


def is_order(sizes, thing):
    """Tell of anything whether it is a tuple of unlike names."""
    return is_tuple_of_names(sizes, thing) and len(set(thing)) == len(thing)


def is_order_of_all(sizes, thing):
    """Tell of anything whether it is an order of all names."""
    return is_order(sizes, thing) and len(thing) == len(sizes)


def all_names(sizes):
    """Tell the rising tuple of all names."""
    return tuple(range(len(sizes)))


def without(names, name):
    """Tell the names but this one."""
    return tuple(other for other in names if other != name)


def room(sizes, names):
    """Tell how many tuples of worths these names have."""
    return product([sizes[name] for name in names])


def places(sizes, names, wide):
    """Tell, for each tuple of worths of the wide names, where a part of some of them has its worth."""
    told = [0]
    for name in wide:
        size = sizes[name]
        # Worths stand in the sorted order of their tuples: the last name's worth changes fastest.
        if name in names:
            told = [at * size + worth for at in told for worth in range(size)]
        else:
            told = [at for at in told for worth in range(size)]
    return told


def spread(sizes, part, wide):
    """Tell the part's worth for each tuple of worths of the wide names, all of its own among them."""
    names, worths = part
    return tuple(worths[at] for at in places(sizes, names, wide))


def joined_parts(word, sizes, parts):
    """Tell the part that all these parts, perhaps none, are when joined."""
    if not parts:
        return ((), (joined_worths(word, []),))
    wide = tuple(sorted({name for names, worths in parts for name in names}))
    columns = [spread(sizes, part, wide) for part in parts]
    return (wide, tuple(joined_worths(word, row) for row in zip(*columns)))


def pairs_of(names):
    """Tell all pairs of these names, in their order."""
    return [(one, other) for at, one in enumerate(names) for other in names[at + 1:]]


def ties_of(sheet):
    """Tell, for each name, the rising tuple of the names that it is tied to."""
    sizes, parts = sheet
    tied = [{} for size in sizes]
    for names, worths in parts:
        for one, other in pairs_of(names):
            tied[one][other] = True
            tied[other][one] = True
    return [tuple(sorted(others)) for others in tied]


def tied_pairs(ties):
    """Tell all pairs of names that are tied, the lesser name first."""
    return [(one, other) for one, others in enumerate(ties) for other in others if one < other]


def bag_along(ties, taken, name):
    """Tell the bag of a name behind those taken out, by going along the ties."""
    reached = {name: True}
    ahead = [name]
    while ahead:
        at = ahead.pop()
        for other in ties[at]:
            if other not in reached:
                reached[other] = True
                if other in taken:
                    ahead.append(other)
    return tuple(sorted([other for other in reached if other not in taken]))


def bags_along(ties, order):
    """Tell the bag of each name of an order, behind those ahead of it."""
    return [bag_along(ties, order[:at], name) for at, name in enumerate(order)]
