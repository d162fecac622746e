"""Nets thinned for told pairs of places, and the papers that show it."""

from thinnet.nets import only, order_of, without
from thinnet.prices import prices_from
from thinnet.thinning import is_within, least_beyond
from thinnet.ways import far, least_ways, way_of


def lengths_of(net, pairs):
    return [far(net, a, b) for a, b in pairs]


# The number of the first pair that the thin net leads too far about, or nowhere, where
# the net has these lengths between the pairs; None where times are kept for all.
def first_lost(times, pairs, lengths, thin):
    for number, length in enumerate(lengths):
        if length is not None:
            by_thin = far(thin, pairs[number][0], pairs[number][1])
            if by_thin is None or not is_within(by_thin, times, length):
                return number
    return None


def keeps_pairs(net, times, pairs, thin):
    return first_lost(times, pairs, lengths_of(net, pairs), thin) is None


def thinned_for_pairs(net, times, pairs):
    lengths = lengths_of(net, pairs)
    thin = only(net, net[1])
    for tie in reversed(order_of(net[1])):
        less = without(thin, [tie])
        if first_lost(times, pairs, lengths, less) is None:
            thin = less
    return thin


def shown_of(net, thin, a, b):
    length = far(net, a, b)
    if length is None:
        return ("apart", tuple(sorted(least_ways(net, a))))
    return ("near", way_of(thin, a, b), prices_from(net, a, length))


# Less is the thin net without the tie that is needed: for some pair it leads too far about.
def needed_of(net, times, pairs, lengths, less):
    number = first_lost(times, pairs, lengths, less)
    a = pairs[number][0]
    b = pairs[number][1]
    return (number, way_of(net, a, b), prices_from(less, a, least_beyond(times, lengths[number])))


def pairs_paper(net, times, pairs):
    thin = thinned_for_pairs(net, times, pairs)
    lengths = lengths_of(net, pairs)
    shown = [shown_of(net, thin, a, b) for a, b in pairs]
    needed = [needed_of(net, times, pairs, lengths, without(thin, [tie])) for tie in order_of(thin[1])]
    return (tuple(shown), tuple(needed))
