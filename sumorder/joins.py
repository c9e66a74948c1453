"""Parts: two joined, one gathered over a name, settled at a worth, widened by names."""

from sumorder.errors import NoFilling, NoName
from sumorder.helper import are_names, gathered_to, is_name, is_whole, joined_parts, places, spread, without


def joined(word, sizes, one, other):
    """Tell the part with the names of either, its worths those of both joined."""
    return joined_parts(word, sizes, [one, other])


def refuse_other_names(sizes, part, name):
    """Raise NoName of anything that is no name of the part."""
    if not is_name(sizes, name) or name not in part[0]:
        raise NoName("no name of this part")


def worths_at(sizes, part, name, worth):
    """Tell the part's worths, in their order, where the name has this worth."""
    names, worths = part
    # A part of the name alone would have its worths at the places that they are.
    worths_of_name = places(sizes, (name,), names)
    return tuple(told for told, at in zip(worths, worths_of_name) if at == worth)


def gathered(word, sizes, part, name):
    """Tell the part without the name, gathered over all its worths; else NoName."""
    refuse_other_names(sizes, part, name)
    return gathered_to(word, sizes, part, without(part[0], name))


def settled(sizes, part, name, worth):
    """Tell the part without the name, its worths those at the name's worth; else NoName, NoFilling."""
    refuse_other_names(sizes, part, name)
    if not is_whole(worth, 0, sizes[name] - 1):
        raise NoFilling("no worth of this name")
    return (without(part[0], name), worths_at(sizes, part, name, worth))


def widened(sizes, part, names):
    """Tell the part that has these names, too, its worths the same whatever they are; else NoName."""
    if not are_names(sizes, names):
        raise NoName("no rising tuple of names")
    wide = tuple(sorted(set(part[0]) | set(names)))
    return (wide, spread(sizes, part, wide))
