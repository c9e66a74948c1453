"""Letters between the bags of a right tree, and each bag's rest."""

from sumorder.helper import Mail, is_number, own_parts, tied_bags


def mail_of(word, sheet, tree):
    """Tell the mail between the tree's bags, no letter reckoned yet."""
    return Mail(word, sheet[0], tied_bags(tree), own_parts(word, sheet, tree))


def letters(word, sheet, tree):
    """Tell all letters, a sorted list of tuples (i, j, part)."""
    mail = mail_of(word, sheet, tree)
    ways = sorted(list(tree[1]) + [(j, i) for i, j in tree[1]])
    return [(i, j, mail.letter(i, j)) for i, j in ways]


def is_very(told, thing):
    """Tell of anything whether it is the same as a thing of lists, tuples and whole numbers, kind by kind."""
    # Python takes truths for the numbers 0 and 1, the document does not.
    if is_number(told):
        return is_number(thing) and thing == told
    if isinstance(told, list) != isinstance(thing, list) or isinstance(told, tuple) != isinstance(thing, tuple):
        return False
    return len(told) == len(thing) and all(is_very(one, other) for one, other in zip(told, thing))


def are_letters(word, sheet, tree, thing):
    """Tell of anything whether it is the list of all letters."""
    return is_very(letters(word, sheet, tree), thing)


def bag_rest(word, sheet, tree, i):
    """Tell the rest of bag i's names: its own part and all letters to it, joined."""
    return mail_of(word, sheet, tree).joined_at(i, None)
