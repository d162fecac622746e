"""Keepers: nets whose places and ties come and go, with their thin nets."""

from thinnet.errors import NoPlace, NoTie, TooMany, Twice
from thinnet.nets import MOST_PLACES, MOST_TIES, left_out, only, without
from thinnet.nettexts import read_net, shown
from thinnet.thinning import thinned
from thinnet.ways import far


class Keeper:
    def __init__(self, times):
        self.times = times
        self.whole = ((), ())
        self.kept = ((), ())

    # Thinned anew by each deed: so the thin net is the net thinned by times, whatever came ahead.
    def turn_to(self, net):
        before = self.kept
        self.whole = net
        self.kept = thinned(net, self.times)
        return (left_out(self.kept, before), left_out(before, self.kept))

    def ask_place(self, name):
        if name not in self.whole[0]:
            raise NoPlace("there is no place " + name)

    # The ties between these two places: one, or none.
    def ties_between(self, a, b):
        self.ask_place(a)
        self.ask_place(b)
        return [tie for tie in self.whole[1] if tie[:2] == (min(a, b), max(a, b))]

    def tie_between(self, a, b):
        ties = self.ties_between(a, b)
        if not ties:
            raise NoTie("there is no tie between " + a + " and " + b)
        return ties[0]

    def come(self, name):
        if name in self.whole[0]:
            raise Twice("there is a place " + name + " already")
        if len(self.whole[0]) == MOST_PLACES:
            raise TooMany("there are as many places as there may be")
        return self.turn_to((tuple(sorted(self.whole[0] + (name,))), self.whole[1]))

    def go(self, name):
        self.ask_place(name)
        places = [place for place in self.whole[0] if place != name]
        ties = [tie for tie in self.whole[1] if name not in tie[:2]]
        return self.turn_to((tuple(places), tuple(ties)))

    def lay(self, a, b, length):
        ties = self.ties_between(a, b)
        if a == b:
            raise NoTie("no tie joins a place with itself")
        if not ties and len(self.whole[1]) == MOST_TIES:
            raise TooMany("there are as many ties as there may be")
        others = without(self.whole, ties)[1]
        return self.turn_to(only(self.whole, others + ((min(a, b), max(a, b), length),)))

    def take(self, a, b):
        return self.turn_to(without(self.whole, [self.tie_between(a, b)]))

    def net(self):
        return self.whole

    def thin(self):
        return self.kept

    def far(self, a, b):
        self.ask_place(a)
        self.ask_place(b)
        return far(self.kept, a, b)

    def lines(self):
        return shown(self.whole)


def taken_up(lines, times):
    keeper = Keeper(times)
    keeper.turn_to(read_net(lines))
    return keeper
