"""Things of any kind that point 2 tells, for tests of what is told or refused "of anything"."""


def nested(depth, inner, as_list=False):
    """A thing within tuples (or lists) of one, so many within one another."""
    for _ in range(depth):
        inner = [inner] if as_list else (inner,)
    return inner


def nested_pairs(depth, inner):
    """A thing within pairs, tuples and lists by turns, so many within one another."""
    for at in range(depth):
        inner = [inner, 0] if at % 2 else (inner, None)
    return inner


def any_things():
    """Things that are no sheet, no part, no filling of two names or more, no names and no worth."""
    return [
        None, True, False,
        0, 1, -1, 2, 4, 12, 10 ** 12, 10 ** 40 - 1, -(10 ** 40 - 1),
        "", " ", "0", "ab", "01", "2 3 / 0 1 : 1 2 3 4 5 -6 / : 7", "sum", "x" * 39999, "\n\t~",
        [], [0], [0, 0], [None, None], [[], []], [(2,), ()], [(2, 2), ()], [(), (1,)], [(), [1]],
        (None,), (None, None), (True, True), (False, False), ("", ""), ("a", "b"), ("ab",),
        (0, "0"), (0, None), ([], []), ((0,), None), (None, (0,)), (2, ()), ("2", ()), (True, ()),
        (0,) * 39999, [0] * 39999, ((),) * 20000, [[]] * 20000, ((0, 0),) * 13000,
        ((), (), ()), ((), ()), ((2,), (), ()), ((2,),), ((2,), 0), ((2,), None), ((2,), "()"),
        nested(26, 0), nested(26, ()), nested(26, 0, True), nested(26, [], True), nested(26, "a"),
        nested_pairs(26, 0), nested_pairs(26, ()), (nested(25, 2), ()), ((2,), nested(25, ())),
        ((), nested(25, 1)), (nested(25, 0), (1,)), (nested(25, 0, True), nested(25, 0, True)),
    ]
