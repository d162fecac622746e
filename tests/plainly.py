"""The document's points told once more, by other means than the program's, for tests to hold it against."""

import re
from fractions import Fraction
from functools import lru_cache
from itertools import combinations, permutations, product


def lengths_of(net):
    """The lengths of ties by their two places, both ways about."""
    lengths = {(a, b): length for a, b, length in net[1]}
    lengths.update({(b, a): length for a, b, length in net[1]})
    return lengths


@lru_cache(maxsize=500)
def all_least(net):
    """The least lengths between all places, place by place let in between. (It is only read.)"""
    least = lengths_of(net)
    least.update({(place, place): 0 for place in net[0]})
    for mid in net[0]:
        joined = [place for place in net[0] if (mid, place) in least]
        for a, b in product(joined, repeat=2):
            length = least[(a, mid)] + least[(mid, b)]
            if (a, b) not in least or length < least[(a, b)]:
                least[(a, b)] = length
    return least


def within(length, times, number):
    return length <= number * Fraction(*times)


def rank(tie):
    return (tie[2], tie[:2])


def in_order(ties):
    return sorted(ties, key=rank)


def ahead(net, tie):
    return (net[0], tuple(other for other in net[1] if rank(other) < rank(tie)))


def out_of(net, thin):
    return in_order(set(net[1]) - set(thin[1]))


def is_round(net, thing):
    if type(thing) is not tuple or len(thing) < 3 or len(set(thing)) < len(thing):
        return False
    lengths = lengths_of(net)
    return all((a, b) in lengths for a, b in zip(thing, thing[1:] + thing[:1]))


def rounds_of(net):
    """All rounds of a small net, each as a list of its ties."""
    lengths = lengths_of(net)
    for many in range(3, len(net[0]) + 1):
        for row in permutations(net[0], many):
            if row[0] == min(row) and row[1] < row[-1] and is_round(net, row):
                steps = zip(row, row[1:] + row[:1])
                yield [(min(a, b), max(a, b), lengths[(a, b)]) for a, b in steps]


def is_of_kind(kind, many, thing):
    return type(thing) is kind and len(thing) == many


def is_thin_of(net, thing):
    """Looked at as written out: so each kind within counts."""
    if not is_of_kind(tuple, 2, thing) or type(thing[1]) is not tuple:
        return False
    written = [repr(tie) for tie in thing[1]]
    return repr(thing) == repr((net[0], tuple(tie for tie in net[1] if repr(tie) in written)))


def is_fair_by(net, thing):
    if not is_of_kind(tuple, len(net[0]), thing) or any(type(price) is not int or price < 0 for price in thing):
        return False
    prices = dict(zip(net[0], thing))
    return all(-length <= prices[a] - prices[b] <= length for a, b, length in net[1])


def gap(net, prices, a, b):
    prices = dict(zip(net[0], prices))
    return max(prices[a], prices[b]) - min(prices[a], prices[b])


def way_length(net, a, b, thing):
    """How long this way from a to b is; None where it is none."""
    if type(thing) is not tuple or any(type(place) is not str for place in thing):
        return None
    if not thing or thing[0] != a or thing[-1] != b or not set(thing) <= set(net[0]):
        return None
    lengths = lengths_of(net)
    steps = [lengths.get(step) for step in zip(thing, thing[1:])]
    return None if None in steps else sum(steps)


def thinned_plainly(net, times):
    kept = (net[0], ())
    for a, b, length in in_order(net[1]):
        least = all_least(kept).get((a, b))
        if least is None or not within(least, times, length):
            kept = (net[0], kept[1] + ((a, b, length),))
    return (net[0], tuple(sorted(kept[1])))


def keeps(net, times, thin):
    least = all_least(thin)
    return all((a, b) in least and within(least[(a, b)], times, length) for a, b, length in out_of(net, thin))


def pieces_of(net):
    """The places of each piece: a tie puts two pieces together."""
    pieces = {(place,) for place in net[0]}
    for a, b, length in net[1]:
        met = {piece for piece in pieces if a in piece or b in piece}
        pieces = pieces - met | {tuple(sorted(sum(met, ())))}
    return pieces


@lru_cache(maxsize=500)
def least_tree_plainly(net):
    """Tie by tie from the last one in order, each one goes without which as much is joined."""
    tree = net
    for tie in reversed(in_order(net[1])):
        less = (net[0], tuple(other for other in tree[1] if other != tie))
        if pieces_of(less) == pieces_of(net):
            tree = less
    return tree


def judged_way(net, times, tie, thing):
    length = way_length(net, tie[0], tie[1], thing)
    if length is None:
        return "way"
    return None if within(length, times, tie[2]) else "far"


def judged_prices(net, times, tie, thing):
    if not is_fair_by(net, thing):
        return "fair"
    return "near" if within(gap(net, thing, tie[0], tie[1]), times, tie[2]) else None


def first_of(words):
    """The first word that is no None, with its number; True where there is none."""
    return next(((word, number) for number, word in enumerate(words) if word is not None), True)


def judged_greedy(net, times, thin, paper):
    """What point 21 tells of it: True, or the word and the number of the refusal."""
    if not is_thin_of(net, thin) or not is_of_kind(tuple, len(net[1]), paper):
        return ("shape", 0)
    if any(not is_of_kind(tuple, 2, entry) or repr(entry[0]) not in ("'in'", "'out'") for entry in paper):
        return ("shape", 0)

    def word(tie, entry):
        if entry[0] != {True: "in", False: "out"}[tie in thin[1]]:
            return "word"
        judged = {"in": judged_prices, "out": judged_way}[entry[0]]
        return judged(ahead(thin, tie), times, tie, entry[1])

    return first_of(word(tie, entry) for tie, entry in zip(in_order(net[1]), paper))


def judged_ways(net, times, thin, paper):
    """The same of point 22."""
    if not is_thin_of(net, thin) or not is_of_kind(tuple, len(net[1]) - len(thin[1]), paper):
        return ("shape", 0)
    return first_of(judged_way(thin, times, tie, thing) for tie, thing in zip(out_of(net, thin), paper))


def judged_tree(net, thin, paper):
    """The same of point 31."""
    if not is_thin_of(net, thin) or not is_of_kind(tuple, len(net[1]) - len(thin[1]), paper):
        return ("shape", 0)
    if len(thin[1]) != len(net[0]) - len(pieces_of(thin)):
        return ("round", 0)

    def word(tie, thing):
        return "way" if way_length(ahead(thin, tie), tie[0], tie[1], thing) is None else None

    return first_of(word(tie, thing) for tie, thing in zip(out_of(net, thin), paper))


def is_tree_plainly(net, place, thing):
    """By what point 32 says of its own: no round, and each tie of the one piece that the place is in."""
    if not is_thin_of(net, thing):
        return False
    reached = next(piece for piece in pieces_of(net) if place in piece)
    lone = {(other,) for other in net[0] if other not in reached}
    if any(a not in reached or b not in reached for a, b, length in thing[1]):
        return False
    return pieces_of(thing) == {reached} | lone and len(thing[1]) == len(reached) - 1


def keeps_for(net, times, pairs, thin):
    least = all_least(net)
    by_thin = all_least(thin)
    joined = [pair for pair in pairs if pair in least]
    return all(pair in by_thin and within(by_thin[pair], times, least[pair]) for pair in joined)


def thinned_for_pairs_plainly(net, times, pairs):
    gone = []
    for tie in in_order(net[1])[::-1]:
        if keeps_for(net, times, pairs, (net[0], tuple(sorted(set(net[1]) - {tie, *gone})))):
            gone.append(tie)
    return (net[0], tuple(sorted(set(net[1]) - set(gone))))


def is_shown_plainly(net, times, pair, thin, thing):
    if type(thing) is not tuple or not thing or repr(thing[0]) not in ("'near'", "'apart'"):
        return False
    if thing[0] == "near":
        if len(thing) != 3 or not is_fair_by(net, thing[2]):
            return False
        length = way_length(thin, *pair, thing[1])
        return length is not None and within(length, times, gap(net, thing[2], *pair))
    if len(thing) != 2 or type(thing[1]) is not tuple:
        return False
    # Written out, the side is just the places of the net that are in it.
    if repr(thing[1]) != repr(tuple(place for place in net[0] if place in thing[1])):
        return False
    crossing = [tie for tie in net[1] if len({tie[0], tie[1]} & set(thing[1])) == 1]
    return pair[0] in thing[1] and pair[1] not in thing[1] and not crossing


def is_needed_plainly(net, times, pairs, less, thing):
    if not is_of_kind(tuple, 3, thing) or repr(thing[0]) not in [repr(number) for number in range(len(pairs))]:
        return False
    pair = pairs[thing[0]]
    length = way_length(net, *pair, thing[1])
    if length is None or not is_fair_by(less, thing[2]):
        return False
    return not within(gap(net, thing[2], *pair), times, length)


def judged_pairs(net, times, pairs, thin, paper):
    """What point 37 tells of it: True, or the word and the number of the refusal."""
    if not is_thin_of(net, thin) or not is_of_kind(tuple, 2, paper):
        return ("shape", 0)
    if not is_of_kind(tuple, len(pairs), paper[0]) or not is_of_kind(tuple, len(thin[1]), paper[1]):
        return ("shape", 0)
    for number, pair in enumerate(pairs):
        if not is_shown_plainly(net, times, pair, thin, paper[0][number]):
            return ("pair", number)
    for number, tie in enumerate(in_order(thin[1])):
        less = (thin[0], tuple(other for other in thin[1] if other != tie))
        if not is_needed_plainly(net, times, pairs, less, paper[1][number]):
            return ("tie", number)
    return True


def less_by(net, ties):
    return (net[0], tuple(tie for tie in net[1] if tie not in ties))


def choices(ties, many):
    """All choices of at most so many of these ties."""
    return [taken for number in range(many + 1) for taken in combinations(ties, number)]


def has_near(net, times, tie):
    least = all_least(net).get(tie[:2])
    return least is not None and within(least, times, tie[2])


def breakers(net, times, tie, many):
    """All choices of at most so many ties of the net without which no way between the tie's places is near."""
    return [taken for taken in choices(net[1], many) if not has_near(less_by(net, taken), times, tie)]


def steady_plainly(net, times, many):
    """The net thinned for many, by all choices of kept ties that are taken away."""
    kept = (net[0], ())
    for tie in in_order(net[1]):
        if breakers(kept, times, tie, many):
            kept = (net[0], tuple(sorted(kept[1] + (tie,))))
    return kept


def is_steady(net, times, many, thin):
    for taken in choices(net[1], many):
        least = all_least(less_by(net, taken))
        by_thin = all_least(less_by(thin, taken))
        if not all(pair in by_thin and within(by_thin[pair], times, least[pair]) for pair in least):
            return False
    return True


def is_bush_plainly(net, times, tie, many, taken, thing):
    if not is_of_kind(tuple, 2, thing) or judged_way(less_by(net, taken), times, tie, thing[0]) is not None:
        return False
    if len(taken) == many:
        return repr(thing[1]) == "()"
    steps = [tuple(sorted(step)) for step in zip(thing[0], thing[0][1:])]
    if not is_of_kind(tuple, len(steps), thing[1]):
        return False
    lost = [[other for other in net[1] if other[:2] == step] for step in steps]
    return all(is_bush_plainly(net, times, tie, many, taken + one, bush) for one, bush in zip(lost, thing[1]))


def is_broken_plainly(net, many, thing):
    return repr(thing) in [repr(tuple(sorted(taken))) for taken in choices(net[1], many)]


def judged_breaking(net, times, many, thin, paper):
    """What point 43 tells of it: True, or the word and the number of the refusal."""
    if not is_thin_of(net, thin) or not is_of_kind(tuple, len(net[1]), paper):
        return ("shape", 0)

    def word(tie, thing):
        before = ahead(thin, tie)
        if tie in thin[1]:
            if not is_of_kind(tuple, 3, thing) or thing[0] != "in":
                return "word"
            right = is_broken_plainly(before, many, thing[1])
            return None if right and judged_prices(less_by(before, thing[1]), times, tie, thing[2]) is None else "in"
        if not is_of_kind(tuple, 2, thing) or thing[0] != "out":
            return "word"
        return None if is_bush_plainly(before, times, tie, many, [], thing[1]) else "out"

    return first_of(word(tie, thing) for tie, thing in zip(in_order(net[1]), paper))


def least_many(net, times):
    """How many ties a least thin net has, by all choices of ties."""
    for many in range(len(net[1]) + 1):
        if any(keeps(net, times, (net[0], ties)) for ties in combinations(net[1], many)):
            return many


def is_closed(net, times, many, settled, thing):
    """Whether this case, which is no split, shows it by the ties settled: True as kept, False as left out."""
    if is_of_kind(tuple, 1, thing):
        return thing[0] == "enough" and list(settled.values()).count(True) >= many
    if not is_of_kind(tuple, 3, thing) or thing[0] != "far":
        return False
    out = [tie for tie in settled if not settled[tie]]
    found = [tie for tie in out if repr(tie) == repr(thing[1])]
    return bool(found) and judged_prices(less_by(net, out), times, found[0], thing[2]) is None


def shows_plainly(net, times, many, thing):
    """What point 46 tells of it: each case is looked at in its turn, with the ties settled ahead of it."""
    waiting = [(thing, {}, 1)]
    for case, settled, deep in waiting:
        if deep > 15 or len(waiting) > 4000:
            return False
        if is_of_kind(tuple, 4, case):
            found = [tie for tie in net[1] if tie not in settled and repr(tie) == repr(case[1])]
            if case[0] != "split" or not found:
                return False
            waiting.append((case[2], {**settled, found[0]: True}, deep + 1))
            waiting.append((case[3], {**settled, found[0]: False}, deep + 1))
        elif not is_closed(net, times, many, settled, case):
            return False
    return True


def is_least_plainly(net, times, thing):
    """What point 47 tells of it."""
    if not is_of_kind(tuple, 3, thing) or judged_ways(net, times, thing[0], thing[1]) is not True:
        return False
    return shows_plainly(net, times, len(thing[0][1]), thing[2])


def composed_plainly(net, thin, thinner, ways, more):
    """What point 51 tells, step by step, both ways about."""
    first = dict(zip(out_of(net, thin), ways))
    steps = {}
    for (a, b, length), way in zip(out_of(thin, thinner), more):
        steps[(a, b)] = list(way)
        steps[(b, a)] = list(way)[::-1]

    def way_by(tie):
        if tie not in first:
            return tuple(steps[tie[:2]])
        told = []
        for step in zip(first[tie], first[tie][1:]):
            told = told[:-1] + steps.get(step, list(step))
        return tuple(told)

    return tuple(way_by(tie) for tie in out_of(net, thinner))


def can_stand(number, words, places, ties):
    """Whether the word of this number can stand there by what stands ahead of it; None is for no word."""
    if number == 0:
        if words[0] == "place":
            return not ties and len(places) < 24
        return words[0] == "tie" and len(ties) < 60
    if words[0] == "place":
        name = re.fullmatch("[a-z]{1,8}", words[1])
        return {1: name is not None and all(place < words[1] for place in places)}.get(number, False)
    if number == 1:
        return words[1] in places
    if number == 2:
        return words[2] in places and words[1] < words[2] and all(tie[:2] < (words[1], words[2]) for tie in ties)
    return number == 3 and re.fullmatch("[1-9][0-9]{0,5}|1000000", words[3]) is not None


def read_plainly(lines):
    """What point 60 tells: a net, or the row and the word of the refusal."""
    places = []
    ties = []
    for row, line in enumerate(lines):
        words = re.split(" ", line)
        for number in range(len(words)):
            if not can_stand(number, words, places, ties):
                return [row, number]
        if len(words) != {"place": 2, "tie": 4}[words[0]]:
            return [row, len(words)]
        if words[0] == "place":
            places.append(words[1])
        else:
            ties.append((words[1], words[2], int(words[3])))
    return (tuple(places), tuple(ties))
