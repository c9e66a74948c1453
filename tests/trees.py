"""Right trees of bags for tests, of many shapes, and letters reckoned by hand, filling by filling."""

from itertools import product

import by_hand
from by_hand import drawn_sheet, drawn_sizes, gather, join, tuples, worth_in
from shapes import bags_by_hand


def tree_by_hand(sheet, order):
    """The tree by an order of all names, by the document's sentence."""
    bags, ties = bags_by_hand(sheet, order), []
    for k, bag in enumerate(bags[:-1]):
        others = [order.index(name) for name in bag if name != order[k]]
        ties.append((k, min(others, default=k + 1)))
    return (tuple(bags), tuple(sorted(ties)))


def renumbered(draw, tree):
    """The same tree, its bags with other numbers."""
    bags, ties = tree
    new = draw.sample(range(len(bags)), len(bags))
    there = {new[at]: bag for at, bag in enumerate(bags)}
    pairs = [tuple(sorted((new[i], new[j]))) for i, j in ties]
    return (tuple(there[at] for at in range(len(bags))), tuple(sorted(pairs)))


def with_more_bags(draw, tree, many):
    """The tree with so many bags more, each with some or none of the names of the one it is tied to."""
    bags, ties = list(tree[0]), list(tree[1])
    for _ in range(many):
        at = draw.randrange(len(bags))
        some = draw.sample(bags[at], draw.randint(0, len(bags[at])))
        ties.append((at, len(bags)))
        bags.append(tuple(sorted(some)))
    return (tuple(bags), tuple(sorted(ties)))


def drawn_tree(draw, sheet):
    """A tree right for the sheet: by a drawn order, perhaps with bags more and other numbers."""
    many = len(sheet[0])
    tree = tree_by_hand(sheet, tuple(draw.sample(range(many), many)))
    tree = with_more_bags(draw, tree, draw.choice((0, 0, 1, 2, 3)))
    return renumbered(draw, tree) if draw.randint(0, 2) else tree


def one_bag(sheet):
    """The tree of one bag that has all names."""
    return ((tuple(range(len(sheet[0]))),), ())


def star_of_twelve(draw, sheet):
    """A star of twelve bags, its middle with all names and of a drawn number."""
    names = tuple(range(len(sheet[0])))
    middle = draw.randrange(12)
    bags = [tuple(sorted(draw.sample(names, draw.randint(0, len(names))))) for _ in range(12)]
    bags[middle] = names
    ties = [(min(at, middle), max(at, middle)) for at in range(12) if at != middle]
    return (tuple(bags), tuple(sorted(ties)))


def drawn(draw, word, times, most=5, parts=6, high=9):
    """Sheets of one to so many names with none to so many parts, each with a right tree."""
    for at in range(times):
        sizes = drawn_sizes(draw, 1 + at % most, 3)
        sheet = drawn_sheet(draw, word, sizes, draw.randint(0, parts), 3, high)
        yield sheet, drawn_tree(draw, sheet)


def side(tree, i, j):
    """The sender's side of the tie: the bags that i hangs with without it."""
    found = {i}
    for _ in tree[0]:
        for tie in tree[1]:
            if set(tie) != {i, j} and set(tie) & found:
                found |= set(tie)
    return found


def ways(tree):
    """All pairs (i, j), two for each tie, sorted."""
    return sorted(tree[1] + tuple((j, i) for i, j in tree[1]))


def ways_to(tree, goal):
    """The pairs (i, j) of all letters towards a bag, sorted."""
    return [(i, j) for i, j in ways(tree) if goal not in side(tree, i, j)]


def laid(sheet, tree):
    """For each part the number of the first bag that has its names."""
    return [min(at for at, bag in enumerate(tree[0]) if set(names) <= set(bag)) for names, worths in sheet[1]]


def letter_by_hand(word, sheet, tree, i, j):
    """The letter: over all fillings of the names on the sender's side, gathered to those that j has, too."""
    sizes, parts = sheet
    sending = side(tree, i, j)
    names = tuple(sorted({name for at in sending for name in tree[0][at]}))
    left = tuple(name for name in names if name in tree[0][j])
    readers = [worth_in(sizes, part) for part, at in zip(parts, laid(sheet, tree)) if at in sending]
    there = {at: [] for at in tuples(sizes, left)}
    for worths in tuples(sizes, names):
        filling = dict(zip(names, worths))
        told = join(word, [reader(filling) for reader in readers])
        there[tuple(filling[name] for name in left)].append(told)
    return (left, tuple(gather(word, there[at]) for at in tuples(sizes, left)))


def letters_by_hand(word, sheet, tree):
    """All letters, sorted."""
    return [(i, j, letter_by_hand(word, sheet, tree, i, j)) for i, j in ways(tree)]


def settled_fillings(sizes, fixed):
    """All fillings that have what is settled, a dict by names."""
    return [at for at in product(*[range(size) for size in sizes])
            if all(at[name] == worth for name, worth in fixed.items())]


def settled_rest(word, sheet, names, fixed):
    """The rest of those names that aren't settled, over the fillings that have what is settled."""
    sizes, parts = sheet
    names = tuple(name for name in names if name not in fixed)
    readers = [worth_in(sizes, part) for part in parts]
    there = {at: [] for at in tuples(sizes, names)}
    for filling in settled_fillings(sizes, fixed):
        told = join(word, [reader(filling) for reader in readers])
        there[tuple(filling[name] for name in names)].append(told)
    return (names, tuple(gather(word, there[at]) for at in tuples(sizes, names)))


def settled_whole(word, sheet, fixed):
    """The whole over the fillings that have what is settled."""
    return settled_rest(word, sheet, (), fixed)[1][0]


def best_by_hand(word, sheet, fixed):
    """The best worth of the fillings that have what is settled, and all that have it."""
    worths = {filling: by_hand.worth(word, sheet, filling) for filling in settled_fillings(sheet[0], fixed)}
    told = gather(word, list(worths.values()))
    return told, [filling for filling in worths if worths[filling] == told]
