"""Nets and plain things that several tests look at."""

import copy
from itertools import combinations, product

from thinnet.errors import NoPaper

LETTERS = "abcdefghijklmnopqrstuvwxyz"
FOUR = ("a", "b", "c", "d")

# Two ways from a to d of unlike lengths, rounds of 3 and 4 ties, and e and f apart.
NET = (
    ("a", "b", "c", "d", "e", "f"),
    (("a", "b", 4), ("a", "c", 9), ("b", "c", 4), ("b", "d", 10), ("c", "d", 3), ("e", "f", 1)),
)
EMPTY = ((), ())
BARE = (FOUR, ())
# In order: ab 2, bc 3, ac 4, cd 4, ad 6. By times, ac is out from 5/4 on, and then ad from 3/2 on.
KITE = (FOUR, (("a", "b", 2), ("a", "c", 4), ("a", "d", 6), ("b", "c", 3), ("c", "d", 4)))
ALIKE = (FOUR, tuple((a, b, 5) for a, b in combinations(FOUR, 2)))
SOME_TIMES = [(1, 1), (5, 4), (4, 3), (3, 2), (2, 1), (3, 1), (10 ** 6, 10 ** 6 - 1), (10 ** 6, 1), (10 ** 6, 10 ** 6)]


def nested(depth, kind):
    thing = kind()
    for count in range(depth - 1):
        thing = kind([thing])
    return thing


SMALL_STRANGE = [
    None, True, False, 0, 1, -1, 7, 10 ** 39, -(10 ** 39),
    "", " ", "a", "abcdefgh", "a b", "place a", "~" * 100,
    [], (), [[]], ((),), [()], ([],), (None,), (True,), (0,), (1,), ("",), [None],
    [1, 1], (1, True), (True, 1), ("1", "1"), (1, None), (1, [1]), [[], []], ([], []), ((), []), ([], ()),
    [(), ()], ((), (), ()), ((), None), (None, ()), ("", ()), ((), ""), ("ab", ()), ((), 0),
    ((1,), ()), ((True,), ()), ((None,), ()), ((("a",),), ()), ((["a"],), ()),
    (("a", "b"), ("a", "b", 1)), (("a", "b"), (("a", "b"),)), (("a", "b"), "ab"), (("a", "b"), (None,)),
    nested(50, list), nested(50, tuple),
]
STRANGE = SMALL_STRANGE + [
    nested(60, list), nested(60, tuple), [0] * 99999, ("a",) * 99999 + (1,), (((),) * 9999, ()), ((), ((),) * 9999),
]


def spoiled_part(part):
    """Things that are never of the kind of this text, number or tuple."""
    if isinstance(part, str):
        return [None, True, 0, "", part.upper(), part + " ", (part,), [part], list(part)]
    if isinstance(part, int):
        return [None, True, False, 0, -part, 10 ** 6 + 1, str(part), (part,), [part]]
    return [None, True, 0, "", "a", list(part), [part], part + (None,), part + ([],)]


def bent_part(part):
    """Things of the kind of this text, number or tuple, but other ones."""
    if isinstance(part, str):
        return ["a", "b", "c", "d", "zz", "in", "out", "near", "apart", "far", "split", "enough"]
    if isinstance(part, int):
        return [part - 1, part + 1, 2 * part, part + 10 ** 9, 10 ** 39]
    found = [part[::-1], part[:1], part + part, part + part[-1:]]
    for index in range(len(part)):
        found.append(part[:index] + part[index + 1:])
        found.append(part[:index] + part[index:index + 1] + part[index:])
        found.append(part[:index] + part[index:index + 2][::-1] + part[index + 2:])
    return found


def changed(thing, changes):
    """This thing with one part of it, or the whole, as changes tells of that part."""
    found = list(changes(thing))
    if isinstance(thing, tuple):
        for index, part in enumerate(thing):
            for other in changed(part, changes):
                found.append(thing[:index] + (other,) + thing[index + 1:])
    return found


def spoiled(thing):
    return changed(thing, spoiled_part)


def bent(thing):
    return changed(thing, bent_part)


def put_in(thing, other):
    """This thing with the other one at the place of one part of it, or of the whole."""
    return changed(thing, lambda part: [other])


def full_net(places, ties, length=1):
    """The net of so many places, with so many ties, the first ones rising."""
    names = tuple(LETTERS[:places])
    pairs = list(combinations(names, 2))[:ties]
    return (names, tuple((a, b, length) for a, b in pairs))


def nets_of(places, lengths):
    """All nets of these places whose ties have these lengths, 0 for no tie."""
    pairs = list(combinations(places, 2))
    for chosen in product(lengths, repeat=len(pairs)):
        yield (places, tuple((a, b, length) for (a, b), length in zip(pairs, chosen) if length))


def ring(places, length=1):
    ends = sorted(tuple(sorted(pair)) for pair in zip(places, places[1:] + places[:1]))
    return (tuple(sorted(places)), tuple((a, b, length) for a, b in ends))


def mixed_numbers(start):
    """Numbers that look mixed, the same ones on every Python."""
    number = start * 2654435761 % 2 ** 32
    while True:
        number = (number * 1664525 + 1013904223) % 2 ** 32
        yield number >> 8


def mixed_net(start, places, ties, lengths):
    """A net of so many places and ties, mixed up, of lengths out of these."""
    numbers = mixed_numbers(start)
    names = LETTERS[:places]
    pairs = sorted(combinations(names, 2), key=lambda pair: next(numbers))[:ties]
    return (tuple(names), tuple((a, b, lengths[next(numbers) % len(lengths)]) for a, b in sorted(pairs)))


def large_nets():
    """Nets of up to 24 places and 60 ties: of like and of unlike lengths, and some in many pieces."""
    return [
        mixed_net(1, 24, 60, [1]),
        mixed_net(2, 24, 60, [10 ** 6]),
        mixed_net(3, 24, 60, [1, 2, 3]),
        mixed_net(4, 24, 60, [1, 10, 100, 1000, 10 ** 4, 10 ** 5, 10 ** 6]),
        mixed_net(5, 24, 60, range(1, 10 ** 6 + 1)),
        mixed_net(6, 24, 60, range(90, 111)),
        mixed_net(7, 12, 60, range(1, 30)),
        mixed_net(8, 24, 18, range(1, 30)),
        full_net(24, 60, 10 ** 6),
    ]


def small_nets():
    """Nets of up to seven places, mixed up: as many as can be looked at from all sides."""
    few = [EMPTY, BARE, (("a",), ()), (("a", "b"), (("a", "b", 1),)), NET, KITE, ALIKE]
    few.append((("a", "b"), (("a", "b", 10 ** 6),)))
    few.append(ring(FOUR, 10 ** 6))
    few.append((FOUR, (("a", "b", 10 ** 6), ("a", "c", 1), ("b", "c", 1), ("c", "d", 10 ** 6))))
    for start in range(12):
        few.append(mixed_net(start, 4 + start % 4, 5 + start % 3, [(1, 2, 3), range(1, 9), range(90, 111)][start % 3]))
    return few


def thin_nets(net):
    """All thin nets of a net."""
    for many in range(1 << len(net[1])):
        yield (net[0], tuple(tie for index, tie in enumerate(net[1]) if many >> index & 1))


def kept_as_it_was(test, ask, *things):
    """What ask tells, once it is seen that it changed none of the things."""
    before = copy.deepcopy(things)
    told = ask(*things)
    test.assertEqual(repr(things), repr(before))
    return told


def is_plain(thing):
    """Whether it is a tuple, text or whole number, of just that kind, and so within."""
    return type(thing) in (str, int) or type(thing) is tuple and all(map(is_plain, thing))


def answer(lets, *things):
    """What a checker says: what it tells, or the word and the number of its refusal."""
    before = repr(things)
    try:
        told = lets(*things)
    except NoPaper as refused:
        told = (refused.word, refused.number)
    return told if repr(things) == before else "changed what was handed in"


def some_pairs(net, start, many):
    """So many pairs of a net, mixed up, or all where there are fewer."""
    numbers = mixed_numbers(start)
    return tuple(sorted(sorted(combinations(net[0], 2), key=lambda pair: next(numbers))[:many]))


def put(things, number, thing):
    """The tuple with this thing in the place of that number."""
    return things[:number] + (thing,) + things[number + 1:]
