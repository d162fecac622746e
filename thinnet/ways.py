"""Ways of a net: how long they are, the least ones, and rounds."""

from thinnet.nets import only, steps_of, without


def length_of(net, thing):
    if not isinstance(thing, tuple) or len(thing) == 0:
        return None
    # Looked at ahead of all else: a list can't be asked for in a dict.
    if not all([isinstance(place, str) for place in thing]):
        return None
    steps = steps_of(net)
    if thing[0] not in steps:
        return None
    length = 0
    for here, there in zip(thing, thing[1:]):
        if there not in steps[here]:
            return None
        length += steps[here][there]
    return length


# The length of the way, or None where the thing is no way of the net from a to b.
def length_between(net, a, b, thing):
    length = length_of(net, thing)
    if length is None or thing[0] != a or thing[-1] != b:
        return None
    return length


# The ties that a way of the net goes over, step by step.
def ties_over(net, way):
    steps = steps_of(net)
    return [(min(here, there), max(here, there), steps[here][there]) for here, there in zip(way, way[1:])]


def nearest_of(waiting, found):
    return min([(found[place][0], place) for place in waiting])[1]


# For each place that is reached: the least length, and the place ahead of it on a way of that length.
# Each place waits once: lengths are above 0, so the nearest one that waits can't become nearer.
def least_ways(net, start):
    steps = steps_of(net)
    found = {start: (0, None)}
    waiting = [start]
    while waiting:
        place = nearest_of(waiting, found)
        waiting.remove(place)
        for other, step in steps[place].items():
            length = found[place][0] + step
            if other not in found:
                waiting.append(other)
                found[other] = (length, place)
            elif length < found[other][0]:
                found[other] = (length, place)
    return found


def far(net, a, b):
    found = least_ways(net, a)
    return found[b][0] if b in found else None


def way_of(net, a, b):
    found = least_ways(net, a)
    if b not in found:
        return None
    way = []
    place = b
    while place is not None:
        way.append(place)
        place = found[place][1]
    return tuple(reversed(way))


# A round is a tie and a way between its places without it. With all lengths
# alike, the least of these ways is one of the fewest ties, and no place comes twice.
def round_of(net):
    alike = only(net, [(a, b, 1) for a, b, length in net[1]])
    fewest = None
    for tie in alike[1]:
        way = way_of(without(alike, [tie]), tie[0], tie[1])
        if way is not None and (fewest is None or len(way) < len(fewest)):
            fewest = way
    return fewest
