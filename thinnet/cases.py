"""Checkers of cases, which show that no thin net has fewer ties, and of least thin nets. They seek no way."""

from thinnet.checking import lets_ways, prices_fault
from thinnet.errors import NoPaper
from thinnet.nets import is_tie_of, is_tuple_of, without

MOST_DEEP = 15
MOST_CASES = 4000


def shows_far(net, times, out, thing):
    if not is_tie_of(net, thing[1]) or thing[1] not in out:
        return False
    return prices_fault(without(net, out), times, thing[1], thing[2]) is None


# Kept and out are the ties settled so far; deep is how many cases may stand within one another.
def shows_by(net, times, many, kept, out, deep, thing):
    if deep == 0:
        return False
    if thing == ("enough",):
        return len(kept) >= many
    if is_tuple_of(3, thing) and thing[0] == "far":
        return shows_far(net, times, out, thing)
    if not is_tuple_of(4, thing) or thing[0] != "split":
        return False
    tie = thing[1]
    if not is_tie_of(net, tie) or tie in kept or tie in out:
        return False
    if not shows_by(net, times, many, kept + [tie], out, deep - 1, thing[2]):
        return False
    return shows_by(net, times, many, kept, out + [tie], deep - 1, thing[3])


def count_of(case):
    if not is_tuple_of(4, case):
        return 1
    return 1 + count_of(case[2]) + count_of(case[3])


# Counted last: a case that shows is not deep, so neither is the count of it.
def shows(net, times, many, thing):
    return shows_by(net, times, many, [], [], MOST_DEEP, thing) and count_of(thing) <= MOST_CASES


def has_ways(net, times, thin, paper):
    try:
        return lets_ways(net, times, thin, paper)
    except NoPaper:
        return False


def is_least(net, times, thing):
    if not is_tuple_of(3, thing) or not has_ways(net, times, thing[0], thing[1]):
        return False
    return shows(net, times, len(thing[0][1]), thing[2])
