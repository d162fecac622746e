"""The checker of breaking papers. It seeks no way and thins no net."""

from thinnet.checking import prices_fault, way_fault
from thinnet.errors import NoPaper
from thinnet.nets import ahead_of, is_rising, is_thin, is_tie_of, is_tuple_of, order_of, without
from thinnet.ways import ties_over


# Rising is asked last: things of unlike kinds can't be told which is ahead.
def are_broken(ahead, many, thing):
    if not isinstance(thing, tuple) or len(thing) > many:
        return False
    return all([is_tie_of(ahead, tie) for tie in thing]) and is_rising(thing)


def shows_in(ahead, times, tie, many, entry):
    return are_broken(ahead, many, entry[1]) and prices_fault(without(ahead, entry[1]), times, tie, entry[2]) is None


# The net has lost the ties that are taken away so far; many is how many may still be.
def is_bush(net, times, tie, many, thing):
    if not is_tuple_of(2, thing) or way_fault(net, times, tie, thing[0]) is not None:
        return False
    steps = ties_over(net, thing[0]) if many > 0 else []
    if not is_tuple_of(len(steps), thing[1]):
        return False
    for step, bush in zip(steps, thing[1]):
        if not is_bush(without(net, [step]), times, tie, many - 1, bush):
            return False
    return True


# Told as the word of a refusal, or None where there is none.
def breaking_fault(thin, times, tie, many, entry):
    ahead = ahead_of(thin, tie)
    if tie in thin[1]:
        if not is_tuple_of(3, entry) or entry[0] != "in":
            return "word"
        return None if shows_in(ahead, times, tie, many, entry) else "in"
    if not is_tuple_of(2, entry) or entry[0] != "out":
        return "word"
    return None if is_bush(ahead, times, tie, many, entry[1]) else "out"


def lets_breaking(net, times, many, thin, paper):
    if not is_thin(net, thin) or not is_tuple_of(len(net[1]), paper):
        raise NoPaper("shape", 0)
    for number, tie in enumerate(order_of(net[1])):
        fault = breaking_fault(thin, times, tie, many, paper[number])
        if fault is not None:
            raise NoPaper(fault, number)
    return True
