"""What the tests hold the program against: everything reckoned filling by filling, and drawn sheets."""

from itertools import product

WORDS = ("sum", "most", "least", "wide", "any")
OF_NOTHING = {"sum": 1, "most": 0, "least": 0, "wide": 10 ** 30, "any": 1}


def join(word, worths):
    """The worths joined two by two."""
    told = None
    for worth in worths:
        if told is None:
            told = worth
        elif word == "sum":
            told = told * worth
        elif word in ("most", "least"):
            told = told + worth
        else:
            told = worth if worth < told else told
    return OF_NOTHING[word] if told is None else told


def gather(word, worths):
    """The worths, one or more, gathered two by two."""
    told = None
    for worth in worths:
        if told is None:
            told = worth
        elif word == "sum":
            told = told + worth
        elif word == "least":
            told = worth if worth < told else told
        else:
            told = worth if worth > told else told
    return told


def tuples(sizes, names):
    """All tuples of worths of these names, sorted."""
    return sorted(product(*[range(sizes[name]) for name in names]))


def fillings(sheet):
    """The sheet's fillings."""
    return tuples(sheet[0], range(len(sheet[0])))


def table(sizes, part):
    """The part's worth by each tuple of worths of its names."""
    names, worths = part
    told = dict(zip(tuples(sizes, names), worths))
    assert len(told) == len(worths)
    return told


def part_of(sizes, names, worth_at):
    """The part with these names whose worths a function tells, given {name: worth}."""
    return (names, tuple(worth_at(dict(zip(names, at))) for at in tuples(sizes, names)))


def worth_in(sizes, part):
    """A function that tells the part's worth, given {name: worth}."""
    there = table(sizes, part)
    return lambda filling: there[tuple(filling[name] for name in part[0])]


def worth(word, sheet, filling):
    """The filling's worth."""
    sizes, parts = sheet
    return join(word, [worth_in(sizes, part)(filling) for part in parts])


def rest(word, sheet, names):
    """The rest of the names: each filling's worth is put where it belongs, all there are gathered."""
    sizes, parts = sheet
    readers = [worth_in(sizes, part) for part in parts]
    there = {at: [] for at in tuples(sizes, names)}
    for filling in fillings(sheet):
        told = join(word, [reader(filling) for reader in readers])
        there[tuple(filling[name] for name in names)].append(told)
    return (names, tuple(gather(word, there[at]) for at in tuples(sizes, names)))


def whole(word, sheet):
    """The whole of the sheet."""
    return rest(word, sheet, ())[1][0]


def drawn_part(draw, word, sizes, names, high=9):
    """A part with these names and drawn worths, by "any" 0 and 1 alone."""
    low, high = (0, 1) if word == "any" else (-high, high)
    return part_of(sizes, names, lambda filling: draw.randint(low, high))


def drawn_names(draw, many, most):
    """A rising tuple of at most so many of the names."""
    return tuple(sorted(draw.sample(range(many), draw.randint(0, min(many, most)))))


def drawn_sheet(draw, word, sizes, parts, most=3, high=9):
    """A sheet with so many drawn parts of at most so many names each."""
    names = [drawn_names(draw, len(sizes), most) for _ in range(parts)]
    return (sizes, tuple(drawn_part(draw, word, sizes, each, high) for each in names))


def drawn_sizes(draw, many, most=4):
    """Sizes of so many names with at most four thousand fillings."""
    sizes, fills = [], 1
    for _ in range(many):
        size = draw.randint(1, max(1, min(most, 4000 // fills)))
        sizes.append(size)
        fills *= size
    draw.shuffle(sizes)
    return tuple(sizes)
