"""The document's points told once more, by other means than the program's, for tests to hold it against."""

from fractions import Fraction
from itertools import permutations, product


def lengths_of(net):
    """The lengths of ties by their two places, both ways about."""
    lengths = {(a, b): length for a, b, length in net[1]}
    lengths.update({(b, a): length for a, b, length in net[1]})
    return lengths


def all_least(net):
    """The least lengths between all places, place by place let in between."""
    least = lengths_of(net)
    least.update({(place, place): 0 for place in net[0]})
    for mid, a, b in product(net[0], repeat=3):
        if (a, mid) in least and (mid, b) in least:
            length = least[(a, mid)] + least[(mid, b)]
            least[(a, b)] = min(length, least.get((a, b), length))
    return least


def within(length, times, number):
    return length <= number * Fraction(*times)


def rank(tie):
    return (tie[2], tie[:2])


def in_order(ties):
    return sorted(ties, key=rank)


def ahead(net, tie):
    return (net[0], tuple(other for other in net[1] if rank(other) < rank(tie)))


def out_of(net, thin):
    return in_order(set(net[1]) - set(thin[1]))


def is_round(net, thing):
    if type(thing) is not tuple or len(thing) < 3 or len(set(thing)) < len(thing):
        return False
    lengths = lengths_of(net)
    return all((a, b) in lengths for a, b in zip(thing, thing[1:] + thing[:1]))


def rounds_of(net):
    """All rounds of a small net, each as a list of its ties."""
    lengths = lengths_of(net)
    for many in range(3, len(net[0]) + 1):
        for row in permutations(net[0], many):
            if row[0] == min(row) and row[1] < row[-1] and is_round(net, row):
                steps = zip(row, row[1:] + row[:1])
                yield [(min(a, b), max(a, b), lengths[(a, b)]) for a, b in steps]


def is_of_kind(kind, many, thing):
    return type(thing) is kind and len(thing) == many


def is_thin_of(net, thing):
    """Looked at as written out: so each kind within counts."""
    if not is_of_kind(tuple, 2, thing) or type(thing[1]) is not tuple:
        return False
    written = [repr(tie) for tie in thing[1]]
    return repr(thing) == repr((net[0], tuple(tie for tie in net[1] if repr(tie) in written)))


def is_fair_by(net, thing):
    if not is_of_kind(tuple, len(net[0]), thing) or any(type(price) is not int or price < 0 for price in thing):
        return False
    prices = dict(zip(net[0], thing))
    return all(-length <= prices[a] - prices[b] <= length for a, b, length in net[1])


def gap(net, prices, a, b):
    prices = dict(zip(net[0], prices))
    return max(prices[a], prices[b]) - min(prices[a], prices[b])


def way_length(net, a, b, thing):
    """How long this way from a to b is; None where it is none."""
    if type(thing) is not tuple or any(type(place) is not str for place in thing):
        return None
    if not thing or thing[0] != a or thing[-1] != b or not set(thing) <= set(net[0]):
        return None
    lengths = lengths_of(net)
    steps = [lengths.get(step) for step in zip(thing, thing[1:])]
    return None if None in steps else sum(steps)


def thinned_plainly(net, times):
    kept = (net[0], ())
    for a, b, length in in_order(net[1]):
        least = all_least(kept).get((a, b))
        if least is None or not within(least, times, length):
            kept = (net[0], kept[1] + ((a, b, length),))
    return (net[0], tuple(sorted(kept[1])))


def keeps(net, times, thin):
    least = all_least(thin)
    return all((a, b) in least and within(least[(a, b)], times, length) for a, b, length in out_of(net, thin))


def pieces_of(net):
    least = all_least(net)
    return {tuple(b for b in net[0] if (a, b) in least) for a in net[0]}


def least_tree_plainly(net):
    """Tie by tie from the last one in order, each one goes without which as much is joined."""
    tree = net
    for tie in reversed(in_order(net[1])):
        less = (net[0], tuple(other for other in tree[1] if other != tie))
        if pieces_of(less) == pieces_of(net):
            tree = less
    return tree


def judged_way(net, times, tie, thing):
    length = way_length(net, tie[0], tie[1], thing)
    if length is None:
        return "way"
    return None if within(length, times, tie[2]) else "far"


def judged_prices(net, times, tie, thing):
    if not is_fair_by(net, thing):
        return "fair"
    return "near" if within(gap(net, thing, tie[0], tie[1]), times, tie[2]) else None


def first_of(words):
    """The first word that is no None, with its number; True where there is none."""
    return next(((word, number) for number, word in enumerate(words) if word is not None), True)


def judged_greedy(net, times, thin, paper):
    """What point 21 tells of it: True, or the word and the number of the refusal."""
    if not is_thin_of(net, thin) or not is_of_kind(tuple, len(net[1]), paper):
        return ("shape", 0)
    if any(not is_of_kind(tuple, 2, entry) or repr(entry[0]) not in ("'in'", "'out'") for entry in paper):
        return ("shape", 0)

    def word(tie, entry):
        if entry[0] != {True: "in", False: "out"}[tie in thin[1]]:
            return "word"
        judged = {"in": judged_prices, "out": judged_way}[entry[0]]
        return judged(ahead(thin, tie), times, tie, entry[1])

    return first_of(word(tie, entry) for tie, entry in zip(in_order(net[1]), paper))


def judged_ways(net, times, thin, paper):
    """The same of point 22."""
    if not is_thin_of(net, thin) or not is_of_kind(tuple, len(net[1]) - len(thin[1]), paper):
        return ("shape", 0)
    return first_of(judged_way(thin, times, tie, thing) for tie, thing in zip(out_of(net, thin), paper))


def judged_tree(net, thin, paper):
    """The same of point 31."""
    if not is_thin_of(net, thin) or not is_of_kind(tuple, len(net[1]) - len(thin[1]), paper):
        return ("shape", 0)
    if len(thin[1]) != len(net[0]) - len(pieces_of(thin)):
        return ("round", 0)

    def word(tie, thing):
        return "way" if way_length(ahead(thin, tie), tie[0], tie[1], thing) is None else None

    return first_of(word(tie, thing) for tie, thing in zip(out_of(net, thin), paper))
