"""Sheets by their ties: rings, rows, trees, all tied, none tied, drawn ones; and ties gone along by hand."""

from itertools import combinations
from random import Random

from by_hand import drawn_sizes, tuples


def sheet_of(sizes, groups):
    """A sheet with a part for each group of names, its worths all 1."""
    rising = [tuple(sorted(group)) for group in groups]
    return (sizes, tuple((names, (1,) * len(tuples(sizes, names))) for names in rising))


def some_sizes(many, most=4):
    """Sizes of so many names, several unlike ones among them."""
    return drawn_sizes(Random(many), many, most)


def ring(many):
    """Each name tied to the next, the last one to the first."""
    return sheet_of(some_sizes(many), [(at, (at + 1) % many) for at in range(many)])


def row(many):
    """Each name tied to the next."""
    return sheet_of(some_sizes(many), [(at, at + 1) for at in range(many - 1)])


def star(many):
    """The last name tied to each other one."""
    return sheet_of(some_sizes(many), [(at, many - 1) for at in range(many - 1)])


def all_tied(many):
    """Each name tied to each, by pairs."""
    return sheet_of(some_sizes(many), list(combinations(range(many), 2)))


def none_tied(many):
    """Parts of one name or none alone."""
    return sheet_of(some_sizes(many), [()] + [(at,) for at in range(0, many, 2)])


def drawn_groups(draw, many, parts, fewest=2, most=3):
    """A sheet of so many drawn groups of names."""
    sizes = [min(many, draw.randint(fewest, most)) for _ in range(parts)]
    return sheet_of(some_sizes(many), [draw.sample(range(many), size) for size in sizes])


def grown(draw, many):
    """A tree of parts: each name comes with some of the names of one group that is there."""
    groups = [(0,)]
    for name in range(1, many):
        group = draw.choice(groups)
        groups.append(tuple(draw.sample(group, draw.randint(0, min(2, len(group))))) + (name,))
    names = draw.sample(range(many), many)
    return sheet_of(some_sizes(many), [[names[each] for each in group] for group in groups])


def shapes(most, times=2):
    """Sheets of one to so many names, of each shape."""
    draw = Random(most)
    for many in range(1, most + 1):
        yield row(many)
        yield star(many)
        yield all_tied(many)
        yield none_tied(many)
        yield (some_sizes(many), ())
        if many > 2:
            yield ring(many)
        for _ in range(times):
            yield drawn_groups(draw, many, draw.randint(0, 2 * many), 2, 2)
            yield drawn_groups(draw, many, draw.randint(0, many), 0, 3)
            yield grown(draw, many)


def all_pairings(many):
    """A sheet for each way to tie so many names, by pairs."""
    pairs = list(combinations(range(many), 2))
    for at in range(2 ** len(pairs)):
        yield sheet_of((2,) * many, [pair for k, pair in enumerate(pairs) if at >> k & 1])


def tied_in(sheet):
    """All pairs of names that stand in one part, both ways about."""
    return {(one, other) for names, worths in sheet[1] for one in names for other in names if one != other}


def bag_by_hand(sheet, taken, name):
    """The name's bag: ways by one name taken out after another are put to those that are there."""
    names = range(len(sheet[0]))
    ways = tied_in(sheet)
    for through in taken:
        ways |= {(one, other) for one in names for other in names
                 if (one, through) in ways and (through, other) in ways}
    return tuple(other for other in names if other == name or (name, other) in ways and other not in taken)


def bags_by_hand(sheet, order):
    """The order's bags."""
    return [bag_by_hand(sheet, order[:at], name) for at, name in enumerate(order)]


def room_by_hand(sheet, names):
    """How many tuples of worths these names have."""
    return len(tuples(sheet[0], names))


def is_fresh(sheet, order):
    """Whether an order of all names ties none anew."""
    ties = tied_in(sheet)
    return all(pair in ties for bag in bags_by_hand(sheet, order) for pair in combinations(bag, 2))


def is_ring_alone(sheet, names):
    """Whether unlike names, four or more, are tied as a ring alone."""
    many = len(names)
    beside = {frozenset((names[at], names[(at + 1) % many])) for at in range(many)}
    tied = {frozenset(pair) for pair in tied_in(sheet) if set(pair) <= set(names)}
    return many >= 4 and tied == beside
