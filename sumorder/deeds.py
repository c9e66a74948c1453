"""The deeds, by their words: how worths are joined, and how they are gathered."""


def product(numbers):
    """Tell all numbers multiplied, 1 where there are none."""
    told = 1
    for number in numbers:
        told *= number
    return told


def total(worths):
    """Tell all worths added."""
    return sum(worths)


def least(worths):
    """Tell the least of the worths."""
    return min(worths)


def greatest(worths):
    """Tell the greatest of the worths."""
    return max(worths)


JOINS = {"sum": product, "most": total, "least": total, "wide": least, "any": least}
GATHERS = {"sum": total, "most": greatest, "least": least, "wide": greatest, "any": greatest}
OF_NOTHING = {"sum": 1, "most": 0, "least": 0, "wide": 10 ** 30, "any": 1}


def joined_worths(word, worths):
    """Tell a list of worths, perhaps none, joined by the word's deed."""
    if not worths:
        return OF_NOTHING[word]
    join = JOINS[word]
    return join(worths)


def gathered_worths(word, worths):
    """Tell a list of one worth or more gathered by the word's deed."""
    gather = GATHERS[word]
    return gather(worths)
