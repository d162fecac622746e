"""Nets thinned by times, and the papers that are written of thin nets."""

from thinnet.nets import ahead_of, left_out, only, order_of
from thinnet.prices import prices_from
from thinnet.ways import length_of, way_of


def is_within(length, times, number):
    return length * times[1] <= number * times[0]


# The least whole length that is beyond times of the number.
def least_beyond(times, number):
    return number * times[0] // times[1] + 1


# A way between the tie's places, within times of its length, or None where there is none.
def near_way(net, times, tie):
    way = way_of(net, tie[0], tie[1])
    if way is None or not is_within(length_of(net, way), times, tie[2]):
        return None
    return way


def thinned(net, times):
    kept = []
    for tie in order_of(net[1]):
        if near_way(only(net, kept), times, tie) is None:
            kept.append(tie)
    return only(net, kept)


# Each way between the places of a kept tie is beyond times of its length. So the
# prices from the one place, cut off just beyond, have this least number at the other.
def greedy_paper(net, times):
    thin = thinned(net, times)
    paper = []
    for tie in order_of(net[1]):
        ahead = ahead_of(thin, tie)
        if tie in thin[1]:
            paper.append(("in", prices_from(ahead, tie[0], least_beyond(times, tie[2]))))
        else:
            paper.append(("out", way_of(ahead, tie[0], tie[1])))
    return tuple(paper)


def ways_paper(net, times, thin):
    ways = [near_way(thin, times, tie) for tie in left_out(net, thin)]
    return None if None in ways else tuple(ways)
