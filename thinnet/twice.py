"""Nets thinned twice: their times multiplied, and their papers of ways put together."""

from thinnet.nets import left_out
from thinnet.ways import ties_over


def product(one, other):
    return (one[0] * other[0], one[1] * other[1])


def is_no_stricter(one, other):
    return one[0] * other[1] >= other[0] * one[1]


# For each tie that the thin net has not, its way in the paper.
def ways_by_tie(net, thin, paper):
    return dict(zip(left_out(net, thin), paper))


# The way with each step over a tie that has a way of its own taken by that one.
def way_taken(thin, way, taken):
    told = [way[0]]
    for number, tie in enumerate(ties_over(thin, way)):
        part = taken.get(tie, tie[:2])
        if way[number] != tie[0]:
            part = part[::-1]
        told.extend(part[1:])
    return tuple(told)


def composed(net, thin, thinner, ways, more):
    first = ways_by_tie(net, thin, ways)
    second = ways_by_tie(thin, thinner, more)
    paper = []
    for tie in left_out(net, thinner):
        paper.append(second[tie] if tie in second else way_taken(thin, first[tie], second))
    return tuple(paper)
