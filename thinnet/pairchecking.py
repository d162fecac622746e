"""The checker of papers of pairs. It seeks no way and thins no net."""

from thinnet.errors import NoPaper
from thinnet.nets import is_rising, is_thin, is_tuple_of, is_whole, order_of, without
from thinnet.prices import is_fair, price_gap
from thinnet.thinning import is_within
from thinnet.ways import length_between


def shows_near(net, times, pair, thin, thing):
    length = length_between(thin, pair[0], pair[1], thing[1])
    if length is None or not is_fair(net, thing[2]):
        return False
    return is_within(length, times, price_gap(net, thing[2], pair[0], pair[1]))


# Rising is asked last: things of unlike kinds can't be told which is ahead.
def is_side(net, thing):
    return isinstance(thing, tuple) and all([place in net[0] for place in thing]) and is_rising(thing)


def shows_apart(net, pair, side):
    if not is_side(net, side) or pair[0] not in side or pair[1] in side:
        return False
    return all([(a in side) == (b in side) for a, b, length in net[1]])


def is_shown(net, times, pair, thin, thing):
    if is_tuple_of(3, thing) and thing[0] == "near":
        return shows_near(net, times, pair, thin, thing)
    return is_tuple_of(2, thing) and thing[0] == "apart" and shows_apart(net, pair, thing[1])


# Less is the thin net without the tie whose thing this is.
def is_needed(net, times, pairs, less, thing):
    if not is_tuple_of(3, thing) or not is_whole(thing[0]) or not 0 <= thing[0] < len(pairs):
        return False
    a = pairs[thing[0]][0]
    b = pairs[thing[0]][1]
    length = length_between(net, a, b, thing[1])
    if length is None or not is_fair(less, thing[2]):
        return False
    return not is_within(price_gap(net, thing[2], a, b), times, length)


def has_shape(pairs, thin, paper):
    return is_tuple_of(2, paper) and is_tuple_of(len(pairs), paper[0]) and is_tuple_of(len(thin[1]), paper[1])


def lets_pairs(net, times, pairs, thin, paper):
    if not is_thin(net, thin) or not has_shape(pairs, thin, paper):
        raise NoPaper("shape", 0)
    for number, pair in enumerate(pairs):
        if not is_shown(net, times, pair, thin, paper[0][number]):
            raise NoPaper("pair", number)
    for number, tie in enumerate(order_of(thin[1])):
        if not is_needed(net, times, pairs, without(thin, [tie]), paper[1][number]):
            raise NoPaper("tie", number)
    return True
