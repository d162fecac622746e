"""Prices of a net's places: no way is shorter than the fair prices of its ends differ."""

from thinnet.nets import is_tuple_of, is_whole
from thinnet.ways import least_ways


def are_prices(net, thing):
    return is_tuple_of(len(net[0]), thing) and all([is_whole(price) and price >= 0 for price in thing])


def price_gap(net, prices, a, b):
    return abs(prices[net[0].index(a)] - prices[net[0].index(b)])


def is_fair(net, thing):
    if not are_prices(net, thing):
        return False
    return all([price_gap(net, thing, a, b) <= length for a, b, length in net[1]])


def prices_from(net, place, most):
    found = least_ways(net, place)
    return tuple([min(most, found[other][0]) if other in found else most for other in net[0]])
