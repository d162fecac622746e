"""The least tree of a net, its paper, and the checker of such papers."""

from thinnet.errors import NoPaper
from thinnet.nets import ahead_of, is_thin, is_tuple_of, left_out, only, order_of
from thinnet.ways import far, length_between, way_of


def least_tree(net):
    kept = []
    for tie in order_of(net[1]):
        if far(only(net, kept), tie[0], tie[1]) is None:
            kept.append(tie)
    return only(net, kept)


def tree_paper(net):
    tree = least_tree(net)
    return tuple([way_of(ahead_of(tree, tie), tie[0], tie[1]) for tie in left_out(net, tree)])


# Laid tie by tie, a tie within one piece closes a round. So the checker need not seek ways.
def has_round(net):
    pieces = {}
    for place in net[0]:
        pieces[place] = place
    for a, b, length in net[1]:
        one = pieces[a]
        other = pieces[b]
        if one == other:
            return True
        for place in net[0]:
            if pieces[place] == other:
                pieces[place] = one
    return False


def lets_tree(net, thin, paper):
    if not is_thin(net, thin) or not is_tuple_of(len(left_out(net, thin)), paper):
        raise NoPaper("shape", 0)
    if has_round(thin):
        raise NoPaper("round", 0)
    for number, tie in enumerate(left_out(net, thin)):
        if length_between(ahead_of(thin, tie), tie[0], tie[1], paper[number]) is None:
            raise NoPaper("way", number)
    return True
