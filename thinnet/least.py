"""Thin nets of the fewest ties that keep times, with what shows it."""

from thinnet.errors import TooMany
from thinnet.nets import only, without
from thinnet.prices import prices_from
from thinnet.thinning import least_beyond, near_way, ways_paper

MOST_TIES_OF_LEAST = 10


# The fewest ties that keep times where just these may still go. Where times are not
# kept any more, they are not with yet fewer ties either: so no more are tried there.
def fewest_of(net, times, thin, ties):
    if not ties:
        return thin
    more = fewest_of(net, times, thin, ties[1:])
    less = without(thin, ties[:1])
    if ways_paper(net, times, less) is None:
        return more
    fewer = fewest_of(net, times, less, ties[1:])
    return fewer if len(fewer[1]) < len(more[1]) else more


# Of the ties left out so far one that has no near way by the others any more, or None.
def lost_of(left, times, out):
    for tie in out:
        if near_way(left, times, tie) is None:
            return tie
    return None


# No thin net that keeps times has fewer ties than many: so ahead of the last tie some case is closed.
def case_of(net, times, many, kept, out):
    if len(kept) >= many:
        return ("enough",)
    left = without(net, out)
    lost = lost_of(left, times, out)
    if lost is not None:
        return ("far", lost, prices_from(left, lost[0], least_beyond(times, lost[2])))
    tie = without(left, kept)[1][0]
    case_in = case_of(net, times, many, kept + [tie], out)
    case_out = case_of(net, times, many, kept, out + [tie])
    return ("split", tie, case_in, case_out)


def least_thin(net, times):
    if len(net[1]) > MOST_TIES_OF_LEAST:
        raise TooMany("a least thin net is told of at most ten ties")
    thin = fewest_of(net, times, only(net, net[1]), net[1])
    return (thin, ways_paper(net, times, thin), case_of(net, times, len(thin[1]), [], []))
