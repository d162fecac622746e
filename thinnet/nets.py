"""Names, times and nets, the order of ties, and thin nets."""

MOST_SIGNS = 8
MOST_NUMBER = 1000000
MOST_PLACES = 24
MOST_TIES = 60


# Truths are asked for by name, since Python counts them among its ints.
def is_whole(thing):
    return isinstance(thing, int) and not isinstance(thing, bool)


# Lengths and the two numbers of times have the same bounds.
def is_number(thing):
    return is_whole(thing) and 1 <= thing <= MOST_NUMBER


def is_tuple_of(count, thing):
    return isinstance(thing, tuple) and len(thing) == count


def is_rising(things):
    return all([ahead < behind for ahead, behind in zip(things, things[1:])])


def is_name(thing):
    if not isinstance(thing, str) or not 1 <= len(thing) <= MOST_SIGNS:
        return False
    return all(["a" <= sign <= "z" for sign in thing])


def is_times(thing):
    if not is_tuple_of(2, thing):
        return False
    if not is_number(thing[0]) or not is_number(thing[1]):
        return False
    return thing[0] >= thing[1]


def is_tie(thing):
    if not is_tuple_of(3, thing):
        return False
    if not is_name(thing[0]) or not is_name(thing[1]):
        return False
    return thing[0] < thing[1] and is_number(thing[2])


def are_places(thing):
    if not isinstance(thing, tuple) or len(thing) > MOST_PLACES:
        return False
    return all([is_name(place) for place in thing]) and is_rising(thing)


def are_ties(places, thing):
    if not isinstance(thing, tuple) or len(thing) > MOST_TIES:
        return False
    if not all([is_tie(tie) for tie in thing]):
        return False
    if not all([tie[0] in places and tie[1] in places for tie in thing]):
        return False
    # Rising by the ends alone: so no two ties are between the same two places.
    return is_rising([(a, b) for a, b, length in thing])


def is_net(thing):
    return is_tuple_of(2, thing) and are_places(thing[0]) and are_ties(thing[0], thing[1])


def rank_of(tie):
    return (tie[2], tie[0], tie[1])


def order_of(ties):
    return sorted(ties, key=rank_of)


# For each place a dict of the places joined with it, and how long each tie is.
def steps_of(net):
    steps = {}
    for place in net[0]:
        steps[place] = {}
    for a, b, length in net[1]:
        steps[a][b] = length
        steps[b][a] = length
    return steps


def ties_at(net, place):
    return sorted(steps_of(net)[place].items())


def only(net, ties):
    return (net[0], tuple(sorted(ties)))


# A tie that equals one of the net may still be of another kind: True equals 1.
def is_tie_of(net, thing):
    return thing in net[1] and is_whole(thing[2])


# Held against the net alone, not against the bounds of nets: a net may lie somewhat beyond these.
def is_thin(net, thing):
    if not is_tuple_of(2, thing) or not isinstance(thing[1], tuple):
        return False
    return thing[0] == net[0] and all([is_tie_of(net, tie) for tie in thing[1]]) and is_rising(thing[1])


# The net with just those of its ties that go ahead of this one in order.
def ahead_of(net, tie):
    return only(net, [other for other in net[1] if rank_of(other) < rank_of(tie)])


def without(net, ties):
    return only(net, [tie for tie in net[1] if tie not in ties])


def left_out(net, thin):
    return order_of([tie for tie in net[1] if tie not in thin[1]])


def total(net):
    return sum([length for a, b, length in net[1]])
