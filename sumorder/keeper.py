"""A keeper: it keeps the letters of a tree while parts change and names are settled and freed."""

from sumorder.bags import is_bag_tree
from sumorder.errors import NoBack, NoBag, NoFilling, NoName, NoPart, NoTree, NoWorths
from sumorder.helper import (
    Mail, exchanged, first_bag, gathered_all, is_name, is_whole, left_free, own_part, settled_part, tied_bags,
)
from sumorder.sheets import is_part


class Keeper:
    """The whole and the bags' rests of a sheet that changes, by a tree of bags that is right for it."""

    def __init__(self, word, sheet, tree):
        if not is_bag_tree(sheet, tree):
            raise NoTree("no tree of bags that is right for the sheet")
        sizes, parts = sheet
        self.word = word
        self.sizes = sizes
        self.bags = tree[0]
        self.parts = parts
        self.laid = [first_bag(self.bags, names) for names, worths in parts]
        self.fixed = (None,) * len(sizes)
        self.past = []
        owns = [self.own_now(i) for i in range(len(self.bags))]
        self.mail = Mail(word, sizes, tied_bags(tree), owns)

    def own_now(self, i):
        """Tell bag i's own part, of its names that aren't settled."""
        there = [part for at, part in zip(self.laid, self.parts) if at == i]
        told = [settled_part(self.sizes, part, self.fixed) for part in there]
        return own_part(self.word, self.sizes, told, left_free(self.bags[i], self.fixed))

    def stand(self, parts, fixed, touched):
        """Let these parts and settled names stand; the touched bags' own parts are told anew."""
        self.parts = parts
        self.fixed = fixed
        for i in touched:
            self.mail.exchange(i, self.own_now(i))

    def change(self, parts, fixed, touched):
        """Let these parts and settled names stand by a change that can be undone."""
        self.past.append((self.parts, self.fixed, touched))
        self.stand(parts, fixed, touched)

    def bags_with(self, name):
        """Tell the numbers of the bags that have the name."""
        return [at for at, bag in enumerate(self.bags) if name in bag]

    def whole(self):
        """Tell the whole over the fillings that have what is settled."""
        return gathered_all(self.word, self.sizes, self.mail.joined_at(0, None))

    def rest(self, i):
        """Tell the rest of bag i's names that aren't settled; else NoBag."""
        if not is_whole(i, 0, len(self.bags) - 1):
            raise NoBag("no bag of this number")
        return self.mail.joined_at(i, None)

    def put(self, k, worths):
        """Give part k other worths; else NoPart, NoWorths."""
        if not is_whole(k, 0, len(self.parts) - 1):
            raise NoPart("no part of this number")
        part = (self.parts[k][0], worths)
        if not is_part(self.sizes, part):
            raise NoWorths("no worths that fit the part")
        if self.word == "any" and not all(worth in (0, 1) for worth in worths):
            raise NoWorths("worths other than 0 and 1")
        self.change(exchanged(self.parts, k, part), self.fixed, [self.laid[k]])

    def settle(self, name, worth):
        """Settle the name at a worth, perhaps anew; else NoName, NoFilling."""
        if not is_name(self.sizes, name):
            raise NoName("no name")
        if not is_whole(worth, 0, self.sizes[name] - 1):
            raise NoFilling("no worth of this name")
        self.change(self.parts, exchanged(self.fixed, name, worth), self.bags_with(name))

    def free(self, name):
        """Free the settled name; NoName where it isn't settled."""
        if not is_name(self.sizes, name) or self.fixed[name] is None:
            raise NoName("no name that is settled")
        self.change(self.parts, exchanged(self.fixed, name, None), self.bags_with(name))

    def back(self):
        """Undo the last change that stands; NoBack where there is none."""
        if not self.past:
            raise NoBack("no change that stands")
        parts, fixed, touched = self.past.pop()
        self.stand(parts, fixed, touched)

    def reckoned(self):
        """Tell how many letters were reckoned since the keeper was made."""
        return self.mail.many
