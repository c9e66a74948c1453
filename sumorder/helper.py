"""What several stages need: kinds of things, tables of worths, ties between names, letters between bags."""

from sumorder.deeds import gathered_worths, joined_worths, product


def is_number(thing):
    """Tell of anything whether it is a whole number."""
    # Python counts truths as integers, the document does not.
    return isinstance(thing, int) and not isinstance(thing, bool)


def is_whole(thing, low, high):
    """Tell of anything whether it is a whole number from low to high."""
    return is_number(thing) and low <= thing <= high


def is_pair(thing):
    """Tell of anything whether it is a tuple of two."""
    return isinstance(thing, tuple) and len(thing) == 2


def is_rising(things):
    """Tell of things that can be compared whether each is less than the next."""
    return all(one < other for one, other in zip(things, things[1:]))


def is_name(sizes, thing):
    """Tell of anything whether it is a name."""
    return is_whole(thing, 0, len(sizes) - 1)


def is_tuple_of_names(sizes, thing):
    """Tell of anything whether it is a tuple of names, in any order, perhaps some twice."""
    return isinstance(thing, tuple) and all(is_name(sizes, name) for name in thing)


def are_names(sizes, thing):
    """Tell of anything whether it is a rising tuple of names."""
    # The kinds go first: only numbers can be compared without an error.
    return is_tuple_of_names(sizes, thing) and is_rising(thing)


def is_order(sizes, thing):
    """Tell of anything whether it is a tuple of unlike names."""
    return is_tuple_of_names(sizes, thing) and len(set(thing)) == len(thing)


def is_order_of_all(sizes, thing):
    """Tell of anything whether it is an order of all names."""
    return is_order(sizes, thing) and len(thing) == len(sizes)


def is_filling(sizes, thing):
    """Tell of anything whether it is a filling of names with these sizes."""
    if not isinstance(thing, tuple) or len(thing) != len(sizes):
        return False
    return all(is_whole(worth, 0, size - 1) for worth, size in zip(thing, sizes))


def is_figures(word, most):
    """Tell whether a word is a number from 0 on by at most so many figures, no 0 ahead."""
    # The length goes first: Python does not read numbers of some thousand figures.
    if len(word) > most or not word.isascii() or not word.isdigit():
        return False
    return word == "0" or not word.startswith("0")


def is_signed_figures(word, most):
    """Tell whether a word is a number by at most so many figures, a "-" ahead where it is below 0."""
    if word.startswith("-"):
        return word != "-0" and is_figures(word[1:], most)
    return is_figures(word, most)


def all_names(sizes):
    """Tell the rising tuple of all names."""
    return tuple(range(len(sizes)))


def without(names, name):
    """Tell the names but this one."""
    return tuple(other for other in names if other != name)


def exchanged(things, at, thing):
    """Tell the tuple of things with another one at this place."""
    return things[:at] + (thing,) + things[at + 1:]


def room(sizes, names):
    """Tell how many tuples of worths these names have."""
    return product([sizes[name] for name in names])


def place_of(sizes, names, filling):
    """Tell where a part of these names has its worth at a filling."""
    # Worths stand in the sorted order of their tuples: the last name's worth changes fastest.
    at = 0
    for name in names:
        at = at * sizes[name] + filling[name]
    return at


def filling_there(sizes, at):
    """Tell the filling whose place among all of them, sorted, is this one."""
    told, left = (), at
    for size in reversed(sizes):
        told = (left % size,) + told
        left = left // size
    return told


def places(sizes, names, wide):
    """Tell, for each tuple of worths of the wide names, where a part of some of them has its worth."""
    told = [0]
    for name in wide:
        size = sizes[name]
        # Worths stand in the sorted order of their tuples: the last name's worth changes fastest.
        if name in names:
            told = [at * size + worth for at in told for worth in range(size)]
        else:
            told = [at for at in told for worth in range(size)]
    return told


def spread(sizes, part, wide):
    """Tell the part's worth for each tuple of worths of the wide names, all of its own among them."""
    names, worths = part
    return tuple(worths[at] for at in places(sizes, names, wide))


def joined_parts(word, sizes, parts):
    """Tell the part that all these parts, perhaps none, are when joined."""
    if not parts:
        return ((), (joined_worths(word, []),))
    wide = tuple(sorted({name for names, worths in parts for name in names}))
    columns = [spread(sizes, part, wide) for part in parts]
    return (wide, tuple(joined_worths(word, row) for row in zip(*columns)))


def part_of_all(word, sheet):
    """Tell the part of all names whose worths are those of all fillings, in their sorted order."""
    sizes, parts = sheet
    wide = all_names(sizes)
    return (wide, spread(sizes, joined_parts(word, sizes, parts), wide))


def gathered_to(word, sizes, part, names):
    """Tell the part gathered over all names that it has but these."""
    wide, worths = part
    left = tuple(name for name in wide if name in names)
    rows = [[] for at in range(room(sizes, left))]
    for at, worth in zip(places(sizes, left, wide), worths):
        rows[at].append(worth)
    return (left, tuple(gathered_worths(word, row) for row in rows))


def gathered_all(word, sizes, part):
    """Tell the part's worths, all gathered."""
    return gathered_to(word, sizes, part, ())[1][0]


def left_free(names, fixed):
    """Tell those of the names that aren't settled; fixed tells a worth or None for each name."""
    return tuple(name for name in names if fixed[name] is None)


def settled_part(sizes, part, fixed):
    """Tell the part without its settled names, its worths those where they are settled."""
    names, worths = part
    told = [0]
    for name in names:
        size = sizes[name]
        there = list(range(size)) if fixed[name] is None else [fixed[name]]
        told = [at * size + worth for at in told for worth in there]
    return (left_free(names, fixed), tuple(worths[at] for at in told))


def pairs_of(names):
    """Tell all pairs of these names, in their order."""
    return [(one, other) for at, one in enumerate(names) for other in names[at + 1:]]


def ties_of(sheet):
    """Tell, for each name, the rising tuple of the names that it is tied to."""
    sizes, parts = sheet
    tied = [{} for size in sizes]
    for names, worths in parts:
        for one, other in pairs_of(names):
            tied[one][other] = True
            tied[other][one] = True
    return [tuple(sorted(others)) for others in tied]


def tied_pairs(ties):
    """Tell all pairs of names that are tied, the lesser name first."""
    return [(one, other) for one, others in enumerate(ties) for other in others if one < other]


def bag_along(ties, taken, name):
    """Tell the bag of a name behind those taken out, by going along the ties."""
    reached = {name: True}
    ahead = [name]
    while ahead:
        at = ahead.pop()
        for other in ties[at]:
            if other not in reached:
                reached[other] = True
                if other in taken:
                    ahead.append(other)
    return tuple(sorted([other for other in reached if other not in taken]))


def bags_along(ties, order):
    """Tell the bag of each name of an order, behind those ahead of it."""
    return [bag_along(ties, order[:at], name) for at, name in enumerate(order)]


def tied_bags(tree):
    """Tell, for each bag, the sorted list of the bags that it is tied to."""
    bags, ties = tree
    told = [[] for bag in bags]
    for i, j in ties:
        told[i].append(j)
        told[j].append(i)
    return [sorted(others) for others in told]


def steps_to(tied, goal):
    """Tell, for each bag but the goal, the next one on the way from it to the goal."""
    steps = {}
    ahead = [goal]
    while ahead:
        at = ahead.pop()
        for other in tied[at]:
            if other != goal and other not in steps:
                steps[other] = at
                ahead.append(other)
    return steps


def first_bag(bags, names):
    """Tell the number of the first bag that has these names."""
    return [at for at, bag in enumerate(bags) if all(name in bag for name in names)][0]


def own_part(word, sizes, parts, names):
    """Tell a bag's own part: the parts laid there, joined and widened by all its names."""
    return (names, spread(sizes, joined_parts(word, sizes, parts), names))


def own_parts(word, sheet, tree):
    """Tell each bag's own part."""
    sizes, parts = sheet
    bags = tree[0]
    laid = [[] for bag in bags]
    for part in parts:
        laid[first_bag(bags, part[0])].append(part)
    return [own_part(word, sizes, there, bag) for there, bag in zip(laid, bags)]


class Mail:
    """The letters between bags: each is reckoned once it is needed, and known till it is forgotten."""

    def __init__(self, word, sizes, tied, owns):
        self.word = word
        self.sizes = sizes
        self.tied = tied
        self.owns = owns
        self.known = {}
        self.many = 0

    def joined_at(self, i, but):
        """Tell bag i's own part and all letters to it, but from one bag or from None, joined."""
        told = [self.letter(k, i) for k in self.tied[i] if k != but]
        return joined_parts(self.word, self.sizes, [self.owns[i]] + told)

    def letter(self, i, j):
        """Tell the letter from bag i to bag j, tied to it."""
        if (i, j) not in self.known:
            part = self.joined_at(i, j)
            self.known[(i, j)] = gathered_to(self.word, self.sizes, part, self.owns[j][0])
            self.many += 1
        return self.known[(i, j)]

    def exchange(self, i, own):
        """Give bag i another own part, and forget all letters from where it stands."""
        self.owns[i] = own
        # A bag is on the sender's side of just those letters that go away from it.
        for receiver, sender in steps_to(self.tied, i).items():
            way = (sender, receiver)
            if way in self.known:
                del self.known[way]
