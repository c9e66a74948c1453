"""What a keeper must tell, reckoned filling by filling, and changes drawn for it."""

from by_hand import part_of
from trees import laid, settled_rest, settled_whole, side, ways


class Model:
    """What a keeper must tell, reckoned filling by filling, and the letters that it must reckon."""

    def __init__(self, word, sheet, tree):
        self.word, self.sheet, self.tree = word, sheet, tree
        self.fixed, self.past, self.known, self.many = {}, [], set(), 0
        self.sides = {way: side(tree, *way) for way in ways(tree)}

    def need(self, goal):
        towards = {way for way, sending in self.sides.items() if goal not in sending}
        self.many += len(towards - self.known)
        self.known |= towards

    def whole(self):
        self.need(0)
        return settled_whole(self.word, self.sheet, self.fixed)

    def rest(self, i):
        self.need(i)
        return settled_rest(self.word, self.sheet, self.tree[0][i], self.fixed)

    def touch(self, bags):
        self.known = {way for way in self.known if not self.sides[way] & set(bags)}

    def change(self, bags):
        self.past.append((self.sheet, dict(self.fixed), bags))
        self.touch(bags)

    def put(self, k, worths):
        self.change([laid(self.sheet, self.tree)[k]])
        sizes, parts = self.sheet
        self.sheet = (sizes, parts[:k] + ((parts[k][0], worths),) + parts[k + 1:])

    def settle(self, name, worth):
        self.change([at for at, bag in enumerate(self.tree[0]) if name in bag])
        self.fixed[name] = worth

    def free(self, name):
        self.change([at for at, bag in enumerate(self.tree[0]) if name in bag])
        del self.fixed[name]

    def back(self):
        self.sheet, self.fixed, bags = self.past.pop()
        self.touch(bags)

    def reckoned(self):
        return self.many


def drawn_change(draw, model):
    """A change that may be made now: a method's name and what is handed in."""
    sizes, parts = model.sheet
    kinds = ["settle", "settle"] + ["put"] * 2 * bool(parts) + ["free"] * bool(model.fixed) + ["back"] * bool(model.past)
    kind = draw.choice(kinds)
    if kind == "put":
        k = draw.randrange(len(parts))
        names, worths = parts[k]
        if draw.randint(0, 3):
            low, high = (0, 1) if model.word == "any" else (-9, 9)
            worths = part_of(sizes, names, lambda filling: draw.randint(low, high))[1]
        return kind, k, worths
    if kind == "settle":
        again = model.fixed and not draw.randint(0, 2)
        name = draw.choice(sorted(model.fixed)) if again else draw.randrange(len(sizes))
        if again and draw.randint(0, 1):
            return kind, name, model.fixed[name]
        return kind, name, draw.randrange(sizes[name])
    if kind == "free":
        return kind, draw.choice(sorted(model.fixed))
    return (kind,)
