"""Nets and plain things that several tests look at."""

import copy
from itertools import combinations

LETTERS = "abcdefghijklmnopqrstuvwxyz"

# Two ways from a to d of unlike lengths, rounds of 3 and 4 ties, and e and f apart.
NET = (
    ("a", "b", "c", "d", "e", "f"),
    (("a", "b", 4), ("a", "c", 9), ("b", "c", 4), ("b", "d", 10), ("c", "d", 3), ("e", "f", 1)),
)
EMPTY = ((), ())


def nested(depth, kind):
    thing = kind()
    for count in range(depth - 1):
        thing = kind([thing])
    return thing


STRANGE = [
    None, True, False, 0, 1, -1, 7, 10 ** 39, -(10 ** 39),
    "", " ", "a", "abcdefgh", "a b", "place a", "~" * 100,
    [], (), [[]], ((),), [()], ([],), (None,), (True,), (0,), (1,), ("",), [None],
    [1, 1], (1, True), (True, 1), ("1", "1"), (1, None), (1, [1]), [[], []], ([], []), ((), []), ([], ()),
    [(), ()], ((), (), ()), ((), None), (None, ()), ("", ()), ((), ""), ("ab", ()), ((), 0),
    ((1,), ()), ((True,), ()), ((None,), ()), ((("a",),), ()), ((["a"],), ()),
    (("a", "b"), ("a", "b", 1)), (("a", "b"), (("a", "b"),)), (("a", "b"), "ab"), (("a", "b"), (None,)),
    nested(60, list), nested(60, tuple), [0] * 99999, ("a",) * 99999 + (1,), (((),) * 9999, ()), ((), ((),) * 9999),
]


def spoiled_part(part):
    """Things that are never of the kind of this text, number or tuple."""
    if isinstance(part, str):
        return [None, True, 0, "", part.upper(), part + " ", (part,), [part], list(part)]
    if isinstance(part, int):
        return [None, True, False, 0, -part, 10 ** 6 + 1, str(part), (part,), [part]]
    return [None, True, 0, "", "a", list(part), [part], part + (None,), part + ([],)]


def spoiled(thing):
    """This thing with one part of it, or the whole, of a wrong kind."""
    found = spoiled_part(thing)
    if isinstance(thing, tuple):
        for index, part in enumerate(thing):
            for other in spoiled(part):
                found.append(thing[:index] + (other,) + thing[index + 1:])
    return found


def full_net(places, ties, length=1):
    """The net of so many places, with so many ties, the first ones rising."""
    names = tuple(LETTERS[:places])
    pairs = list(combinations(names, 2))[:ties]
    return (names, tuple((a, b, length) for a, b in pairs))


def kept_as_it_was(test, ask, *things):
    """What ask tells, once it is seen that it changed none of the things."""
    before = copy.deepcopy(things)
    told = ask(*things)
    test.assertEqual(repr(things), repr(before))
    return told
