"""Trees from a place: those of nearest ways, and light ones."""

from thinnet.nets import is_thin, only, steps_of
from thinnet.thinning import is_within
from thinnet.trees import least_tree
from thinnet.ways import least_ways, way_of


# Thin nets lead nowhere where the net doesn't: so it is enough to count the places.
def is_tree_from(net, place, thing):
    if not is_thin(net, thing):
        return False
    many = len(least_ways(net, place))
    return len(least_ways(thing, place)) == many and len(thing[1]) == many - 1


# Found is as least_ways tells it: for each place how far it is, and the place ahead of it.
def tree_of(net, found):
    steps = steps_of(net)
    ties = []
    for place in found:
        ahead = found[place][1]
        if ahead is not None:
            ties.append((min(place, ahead), max(place, ahead), steps[place][ahead]))
    return only(net, ties)


def tree_from(net, place):
    return tree_of(net, least_ways(net, place))


# The steps of a walk round a tree, from the place and back, over each tie there and back.
def walk_round(steps, place, ahead):
    walk = []
    for other in steps[place]:
        if other != ahead:
            walk.append((place, other))
            walk.extend(walk_round(steps, other, place))
            walk.append((other, place))
    return walk


def go_over(steps, found, way):
    for here, there in zip(way, way[1:]):
        length = found[here][0] + steps[here][there]
        if there not in found or length < found[there][0]:
            found[there] = (length, here)


# A nearest way is laid only where the last one laid and the walk since it, added up, are beyond
# times of it. So all that is laid, times top - bottom, is at most bottom times the whole walk,
# and the walk is twice the least tree: that keeps the tree light.
def light_tree(net, place, times):
    steps = steps_of(net)
    nearest = least_ways(net, place)
    found = {place: (0, None)}
    for step in walk_round(steps_of(least_tree(net)), place, None):
        go_over(steps, found, step)
        if not is_within(found[step[1]][0], times, nearest[step[1]][0]):
            go_over(steps, found, way_of(net, place, step[1]))
    return tree_of(net, found)
