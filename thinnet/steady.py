"""Nets thinned so that all stays within times when ties break, and the papers that show it."""

from thinnet.nets import ahead_of, only, order_of, without
from thinnet.prices import prices_from
from thinnet.thinning import least_beyond, near_way
from thinnet.ways import ties_over, way_of


# At most so many ties without which no way between the tie's places is near enough, or None where
# there are none. They must break this near way, too: so no other ties than its own come first.
def broken_of(net, times, tie, many):
    way = near_way(net, times, tie)
    if way is None:
        return []
    if many == 0:
        return None
    for step in ties_over(net, way):
        broken = broken_of(without(net, [step]), times, tie, many - 1)
        if broken is not None:
            return [step] + broken
    return None


def steady_thinned(net, times, many):
    kept = []
    for tie in order_of(net[1]):
        if broken_of(only(net, kept), times, tie, many) is not None:
            kept.append(tie)
    return only(net, kept)


def bush_of(net, tie, many):
    way = way_of(net, tie[0], tie[1])
    if many == 0:
        return (way, ())
    bushes = [bush_of(without(net, [step]), tie, many - 1) for step in ties_over(net, way)]
    return (way, tuple(bushes))


def breaking_entry(ahead, times, tie, many):
    broken = broken_of(ahead, times, tie, many)
    if broken is None:
        return ("out", bush_of(ahead, tie, many))
    prices = prices_from(without(ahead, broken), tie[0], least_beyond(times, tie[2]))
    return ("in", tuple(sorted(broken)), prices)


def breaking_paper(net, times, many):
    thin = steady_thinned(net, times, many)
    return tuple([breaking_entry(ahead_of(thin, tie), times, tie, many) for tie in order_of(net[1])])
