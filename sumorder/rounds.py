"""Letters told in rounds: all of a tree, or those towards one bag."""

from sumorder.errors import NoBag
from sumorder.helper import is_whole, steps_to, tied_bags


def in_rounds(tied, ways):
    """Tell the rounds of the letters on these ways, all that any of them waits for among them."""
    told, left, known = [], sorted(ways), {}
    while left:
        ready = [(i, j) for i, j in left if all((k, i) in known for k in tied[i] if k != j)]
        left = [way for way in left if way not in ready]
        # Only behind the round: what is told in it is not waited for in the same one.
        for way in ready:
            known[way] = True
        told.append(ready)
    return told


def rounds(tree):
    """Tell the rounds of all letters, each a sorted list of pairs (i, j)."""
    tied = tied_bags(tree)
    return in_rounds(tied, [(i, j) for i, others in enumerate(tied) for j in others])


def rounds_to(tree, i):
    """Tell the rounds of the letters towards bag i; else NoBag."""
    if not is_whole(i, 0, len(tree[0]) - 1):
        raise NoBag("no bag of this number")
    tied = tied_bags(tree)
    return in_rounds(tied, list(steps_to(tied, i).items()))
