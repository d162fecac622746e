"""Checkers of greedy papers and of papers of ways. They seek no way and thin no net."""

from thinnet.errors import NoPaper
from thinnet.nets import ahead_of, is_thin, is_tuple_of, left_out, order_of
from thinnet.prices import price_gap, is_fair
from thinnet.thinning import is_within
from thinnet.ways import length_between


# The faults below are told as the words of a refusal, or None where there is none.
def way_fault(net, times, tie, thing):
    length = length_between(net, tie[0], tie[1], thing)
    if length is None:
        return "way"
    return None if is_within(length, times, tie[2]) else "far"


def prices_fault(net, times, tie, thing):
    if not is_fair(net, thing):
        return "fair"
    return "near" if is_within(price_gap(net, thing, tie[0], tie[1]), times, tie[2]) else None


def greedy_fault(times, thin, tie, entry):
    kept = tie in thin[1]
    if kept != (entry[0] == "in"):
        return "word"
    ahead = ahead_of(thin, tie)
    return prices_fault(ahead, times, tie, entry[1]) if kept else way_fault(ahead, times, tie, entry[1])


def is_greedy_entry(thing):
    return is_tuple_of(2, thing) and thing[0] in ("in", "out")


def lets_greedy(net, times, thin, paper):
    if not is_thin(net, thin) or not is_tuple_of(len(net[1]), paper):
        raise NoPaper("shape", 0)
    if not all([is_greedy_entry(entry) for entry in paper]):
        raise NoPaper("shape", 0)
    for number, tie in enumerate(order_of(net[1])):
        fault = greedy_fault(times, thin, tie, paper[number])
        if fault is not None:
            raise NoPaper(fault, number)
    return True


def lets_ways(net, times, thin, paper):
    if not is_thin(net, thin) or not is_tuple_of(len(left_out(net, thin)), paper):
        raise NoPaper("shape", 0)
    for number, tie in enumerate(left_out(net, thin)):
        fault = way_fault(thin, times, tie, paper[number])
        if fault is not None:
            raise NoPaper(fault, number)
    return True
