"""Tests of sumorder.rounds: letters told in rounds, all of a tree or those towards one bag."""

import unittest
from random import Random

from sumorder.errors import NoBag
from sumorder.rounds import rounds, rounds_to
from things import Case, no_name
from trees import drawn, side, ways, ways_to


def tree_of(parents, new=None):
    """A tree of bags that all have name 0: bag k + 1 is tied to the one told, numbers exchanged by new."""
    new = new or list(range(len(parents) + 1))
    ties = [tuple(sorted((new[at + 1], new[parent]))) for at, parent in enumerate(parents)]
    return (((0,),) * len(new), tuple(sorted(ties)))


def line(many):
    return tree_of(list(range(many - 1)))


def star(many):
    return tree_of([0] * (many - 1))


def drawn_trees(draw, times):
    """Trees of one to twelve bags, their bags with drawn numbers."""
    for at in range(times):
        many = 1 + at % 12
        parents = [draw.randint(max(0, k - draw.randint(0, 3)), k) for k in range(many - 1)]
        yield tree_of(parents, draw.sample(range(many), many))


def far(tree, start):
    """How many ties the way from a bag to each other one has."""
    told, found = {start: 0}, [start]
    for at in found:
        for tie in tree[1]:
            if at in tie:
                other = tie[0] + tie[1] - at
                if other not in told:
                    told[other] = told[at] + 1
                    found.append(other)
    return told


def by_waiting(tree, pairs):
    """The rounds: each letter in the first one behind all that it waits for."""
    when = {}
    def turn(i, j):
        if (i, j) not in when:
            when[(i, j)] = 1 + max([turn(k, other) for k, other in ways(tree) if other == i and k != j], default=-1)
        return when[(i, j)]
    for way in pairs:
        turn(*way)
    last = max([when[way] for way in pairs], default=-1)
    return [sorted(way for way in pairs if when[way] == at) for at in range(last + 1)]


def every_tree():
    yield from (line(many) for many in range(1, 13))
    yield from (star(many) for many in range(1, 13))
    yield from drawn_trees(Random(1), 60)
    for sheet, tree in drawn(Random(2), "sum", 20):
        yield tree


class Rounds(Case):
    def test_written_ones(self):
        self.told([], rounds, line(1))
        self.told([[(0, 1), (1, 0)]], rounds, line(2))
        self.told([[(0, 1), (2, 1)], [(1, 0), (1, 2)]], rounds, line(3))
        self.told([[(0, 1), (3, 2)], [(1, 2), (2, 1)], [(1, 0), (2, 3)]], rounds, line(4))
        self.told([[(1, 0), (2, 0), (3, 0)], [(0, 1), (0, 2), (0, 3)]], rounds, star(4))
        self.told([[(2, 1)], [(1, 0)]], rounds_to, line(3), 0)
        self.told([[(0, 1), (2, 1)]], rounds_to, line(3), 1)
        self.told([[(2, 0), (3, 0)], [(0, 1)]], rounds_to, star(4), 1)
        # A letter that waits for none is told in the first round, however late it is needed.
        tree = tree_of([0, 1, 0])
        self.told([[(2, 1), (3, 0)], [(1, 0)]], rounds_to, tree, 0)

    def test_each_in_the_first_round_behind_what_it_waits_for(self):
        for tree in every_tree():
            self.told(by_waiting(tree, ways(tree)), rounds, tree)
            for at in range(len(tree[0])):
                self.told(by_waiting(tree, ways_to(tree, at)), rounds_to, tree, at)

    def test_as_many_as_the_longest_way_has_ties(self):
        for tree in every_tree():
            many = range(len(tree[0]))
            self.assertEqual(len(rounds(tree)), max(max(far(tree, at).values()) for at in many))
            for at in many:
                self.assertEqual(len(rounds_to(tree, at)), max(far(tree, at).values()))

    def test_all_letters_once_and_each_round_sorted(self):
        for tree in every_tree():
            told = rounds(tree)
            self.assertEqual(sorted(way for each in told for way in each), ways(tree))
            for each in told:
                self.assertEqual(each, sorted(each))
                self.assertTrue(each)
            for at in range(len(tree[0])):
                towards = [way for each in rounds_to(tree, at) for way in each]
                self.assertEqual(sorted(towards), [way for way in ways(tree) if at not in side(tree, *way)])

    def test_kinds(self):
        told = rounds(star(3)) + rounds_to(star(3), 0)
        self.assertEqual({type(each) for each in told}, {list})
        self.assertEqual({type(way) for each in told for way in each}, {tuple})

    def test_new_lists_each_time(self):
        for function, handed in ((rounds, (line(5),)), (rounds_to, (line(5), 2))):
            told = function(*handed)
            expected = [list(each) for each in told]
            for each in told:
                each.append(None)
            told.reverse()
            self.told(expected, function, *handed)

    def test_no_bag(self):
        for tree in (line(1), line(3), star(12)):
            for thing in no_name(tuple(range(len(tree[0])))):
                self.refused(NoBag, rounds_to, tree, thing)
        self.refused(NoBag, rounds_to, line(3), len(line(3)[0]))
        self.refused(NoBag, rounds_to, line(3), -1)

    def test_bags_without_names(self):
        tree = (((), (0,), ()), ((0, 1), (1, 2)))
        self.told([[(0, 1), (2, 1)], [(1, 0), (1, 2)]], rounds, tree)


if __name__ == "__main__":
    unittest.main()
