"""Things of any kind that point 2 tells, for tests of what is told or refused "of anything"."""

import unittest


def nested(depth, inner, as_list=False):
    """A thing within tuples (or lists) of one, so many within one another."""
    for _ in range(depth):
        inner = [inner] if as_list else (inner,)
    return inner


def nested_pairs(depth, inner):
    """A thing within pairs, tuples and lists by turns, so many within one another."""
    for at in range(depth):
        inner = [inner, 0] if at % 2 else (inner, None)
    return inner


def any_things():
    """Things that are no sheet, no part, no filling of two names or more, no names and no worth."""
    return [
        None, True, False,
        0, 1, -1, 2, 4, 12, 10 ** 12, 10 ** 40 - 1, -(10 ** 40 - 1),
        "", " ", "0", "ab", "01", "2 3 / 0 1 : 1 2 3 4 5 -6 / : 7", "sum", "x" * 39999, "\n\t~",
        [], [0], [0, 0], [None, None], [[], []], [(2,), ()], [(2, 2), ()], [(), (1,)], [(), [1]],
        (None,), (None, None), (True, True), (False, False), ("", ""), ("a", "b"), ("ab",),
        (0, "0"), (0, None), ([], []), ((0,), None), (None, (0,)), (2, ()), ("2", ()), (True, ()),
        (0,) * 39999, [0] * 39999, ((),) * 20000, [[]] * 20000, ((0, 0),) * 13000,
        ((), (), ()), ((), ()), ((2,), (), ()), ((2,),), ((2,), 0), ((2,), None), ((2,), "()"),
        nested(26, 0), nested(26, ()), nested(26, 0, True), nested(26, [], True), nested(26, "a"),
        nested_pairs(26, 0), nested_pairs(26, ()), (nested(25, 2), ()), ((2,), nested(25, ())),
        ((), nested(25, 1)), (nested(25, 0), (1,)), (nested(25, 0, True), nested(25, 0, True)),
    ]


def no_order(many):
    """Things that are no tuple of unlike names, where there are so many names."""
    last = many - 1
    return any_things() + [
        (many,), (many + 1,), (-1,), (-many,), (10 ** 39,), (-10 ** 39,), (0, many), (-1, 0),
        (0, 0), (last, last), (0, 0, last), (last, 0, last), tuple(range(many)) + (0,),
        tuple(range(many)) * 2, tuple(range(many + 1)), tuple(range(-1, many)),
        (True,), (False,), (False, last), (0, True), ("0",), ("",), "", (None,), (0, None), (None, 0),
        [], [0], [last], list(range(many)), ([],), ([0],), ((),), ((0,),), ((0,), last), (0, (last,)),
        (tuple(range(many)),), ([0], [last]), nested(20, 0), nested(20, 0, True), (0, nested(20, last)),
    ]


def no_names(many):
    """Things that are no rising tuple of names, where there are so many names."""
    turned = [(1, 0), tuple(reversed(range(many))), tuple(range(1, many)) + (0,)] if many > 1 else []
    return no_order(many) + turned


def no_name(names):
    """Things that are none of these names."""
    things = any_things() + list(range(-3, 20)) + [
        10 ** 39, -10 ** 39, (0,), (1,), names, ((0,),), [list(names)], nested(25, 0), str(names),
    ]
    return [thing for thing in things if type(thing) is not int or thing not in names]


class Case(unittest.TestCase):
    """What is told is held to the letter, what is handed in stays as it was."""

    def asked(self, function, *handed):
        """What the function tells, twice the same, of things that stay as they were."""
        before = repr(handed)
        told, again = function(*handed), function(*handed)
        self.assertEqual(repr(told), repr(again))
        self.assertEqual(repr(handed), before)
        return told

    def told(self, expected, function, *handed):
        """The function tells this; a truth is no number here, and a list no tuple."""
        told = self.asked(function, *handed)
        if repr(told) != repr(expected):
            self.fail(f"{function.__name__}{handed} tells {told}, not {expected}"[:2000])

    def refused(self, error, function, *handed):
        """The function raises this very class."""
        before = repr(handed)
        with self.assertRaises(error, msg=before[:300]) as caught:
            function(*handed)
        self.assertIs(type(caught.exception), error)
        self.assertEqual(repr(handed), before)
