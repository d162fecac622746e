import unittest
from fractions import Fraction
from itertools import product as all_of

from plainly import composed_plainly, judged_ways, keeps, out_of
from samples import (
    ALIKE, BARE, EMPTY, FOUR, KITE, is_plain, kept_as_it_was, large_nets, mixed_net, small_nets, thin_nets,
)
from thinnet.checking import lets_ways
from thinnet.nets import is_times, only
from thinnet.steady import steady_thinned
from thinnet.thinning import thinned, ways_paper
from thinnet.twice import composed, is_no_stricter, product

SOME = [(1, 1), (2, 1), (3, 2), (4, 2), (5, 4), (7, 3), (1000, 1), (1000, 999), (1000, 1000), (999, 998)]
GREAT = [(10 ** 6, 1), (10 ** 6, 10 ** 6), (10 ** 6, 10 ** 6 - 1), (10 ** 6 - 1, 10 ** 6 - 2)]


def without(net, *ends):
    """The net without the ties between these places, each told as ab."""
    return (net[0], tuple(tie for tie in net[1] if tie[0] + tie[1] not in ends))


class Product(unittest.TestCase):
    def test_by_hand(self):
        for one, other, right in (
            ((1, 1), (1, 1), (1, 1)), ((3, 2), (5, 4), (15, 8)), ((5, 4), (3, 2), (15, 8)), ((2, 2), (3, 3), (6, 6)),
            ((1000, 1), (1000, 1), (10 ** 6, 1)), ((1000, 1000), (1000, 1000), (10 ** 6, 10 ** 6)),
            ((1000, 999), (1000, 999), (10 ** 6, 998001)), ((4, 2), (1, 1), (4, 2)), ((1000, 1), (1, 1), (1000, 1)),
        ):
            told = kept_as_it_was(self, product, one, other)
            self.assertEqual(told, right)
            self.assertTrue(type(told) is tuple and is_plain(told))

    def test_it_is_times(self):
        for one, other in all_of(SOME, repeat=2):
            self.assertTrue(is_times(product(one, other)))
            self.assertEqual(Fraction(*product(one, other)), Fraction(*one) * Fraction(*other))


class NoStricter(unittest.TestCase):
    def test_by_hand(self):
        for one, other, right in (
            ((1, 1), (1, 1), True), ((2, 1), (1, 1), True), ((1, 1), (2, 1), False), ((4, 2), (2, 1), True),
            ((2, 1), (4, 2), True), ((3, 2), (4, 3), True), ((4, 3), (3, 2), False),
            ((10 ** 6, 10 ** 6 - 1), (10 ** 6 - 1, 10 ** 6 - 2), False),
            ((10 ** 6 - 1, 10 ** 6 - 2), (10 ** 6, 10 ** 6 - 1), True), ((10 ** 6, 1), (10 ** 6 - 1, 1), True),
            ((10 ** 6 - 1, 1), (10 ** 6, 1), False), ((10 ** 6, 10 ** 6), (1, 1), True),
            ((1, 1), (10 ** 6, 10 ** 6), True),
        ):
            self.assertIs(kept_as_it_was(self, is_no_stricter, one, other), right, (one, other))

    def test_as_fractions_tell(self):
        for one, other in all_of(SOME + GREAT, repeat=2):
            self.assertIs(is_no_stricter(one, other), Fraction(*one) >= Fraction(*other))

    def test_what_keeps_times_keeps_all_that_are_no_stricter(self):
        for net in small_nets()[:12]:
            for thin in thin_nets(net):
                kept = [times for times in SOME if keeps(net, times, thin)]
                for one in SOME:
                    if any(is_no_stricter(one, other) for other in kept):
                        self.assertTrue(keeps(net, one, thin))


class Composed(unittest.TestCase):
    def tells(self, right, net, thin, thinner, ways, more):
        told = kept_as_it_was(self, composed, net, thin, thinner, ways, more)
        self.assertEqual(told, right, (net, thin, thinner, ways, more))
        self.assertTrue(type(told) is tuple and is_plain(told))
        self.assertEqual(told, composed_plainly(net, thin, thinner, ways, more))

    def test_kite_by_hand(self):
        # For ad acd of the first paper, in which ac is taken by abc; ac itself is of the thin net.
        thin = without(KITE, "ad")
        thinner = without(KITE, "ac", "ad")
        self.tells((("a", "b", "c"), ("a", "b", "c", "d")), KITE, thin, thinner, (("a", "c", "d"),), (("a", "b", "c"),))
        self.assertIs(lets_ways(KITE, (20, 12), thinner, (("a", "b", "c"), ("a", "b", "c", "d"))), True)
        # The thin net goes by other ways, which need none of the second paper.
        right = (("a", "b", "c"), ("a", "b", "c", "d"))
        self.tells(right, KITE, thin, thinner, (("a", "b", "c", "d"),), (("a", "b", "c"),))

    def test_steps_that_go_from_b_to_a(self):
        # For bd bad of the first paper; ab has acb in the second one: turned about it is bca.
        net = (FOUR, (("a", "b", 2), ("a", "c", 1), ("a", "d", 3), ("b", "c", 1), ("b", "d", 5)))
        thin = without(net, "bd")
        thinner = without(net, "ab", "bd")
        first = (("b", "a", "d"),)
        second = (("a", "c", "b"),)
        self.tells((("a", "c", "b"), ("b", "c", "a", "d")), net, thin, thinner, first, second)
        # A way of which not one step reads the same from both ends.
        self.tells((("a", "c", "a", "c", "b"), ("b", "c", "a", "c", "a", "d")), net, thin, thinner, first,
                   (("a", "c", "a", "c", "b"),))
        # There, back and there again over the same tie.
        self.tells((("a", "c", "b"), ("b", "c", "a", "c", "b", "c", "a", "d")), net, thin, thinner,
                   (("b", "a", "b", "a", "d"),), second)

    def test_ways_that_meet(self):
        places = ("a", "b", "c", "d", "e")
        short = (("b", "c", 2), ("b", "d", 1), ("b", "e", 1), ("c", "e", 1))
        net = (places, (("a", "b", 2), ("a", "c", 4), ("a", "d", 1)) + short)
        thin = without(net, "ac")
        thinner = without(net, "ab", "ac", "bc")
        ab = ("a", "d", "b")
        bc = ("b", "e", "c")
        self.tells((ab, bc, ("a", "d", "b", "e", "c")), net, thin, thinner, (("a", "b", "c"),), (ab, bc))
        # There, back and there again, as far as a length of 9 lets it.
        long = (places, net[1][:1] + (("a", "c", 9),) + net[1][2:])
        way = ("a", "b", "c", "b", "c")
        right = ("a", "d", "b", "e", "c", "e", "b", "e", "c")
        self.tells((ab, bc, right), long, thin, thinner, (way,), (ab, bc))

    def test_none_left_out(self):
        for net in (EMPTY, BARE, KITE):
            self.tells((), net, net, net, (), ())
        thin = without(KITE, "ad")
        self.tells((("a", "c", "d"),), KITE, thin, thin, (("a", "c", "d"),), ())
        self.tells((("a", "c", "d"),), KITE, KITE, thin, (), (("a", "c", "d"),))

    def test_ties_of_like_lengths_stand_in_order(self):
        thin = without(ALIKE, "bd")
        thinner = without(ALIKE, "bc", "bd", "cd")
        self.tells((("b", "a", "c"), ("b", "a", "d"), ("c", "a", "d")), ALIKE, thin, thinner, (("b", "a", "d"),),
                   (("b", "a", "c"), ("c", "a", "d")))
        self.tells((("b", "a", "c"), ("b", "a", "c", "a", "d"), ("c", "a", "d")), ALIKE, thin, thinner,
                   (("b", "c", "d"),), (("b", "a", "c"), ("c", "a", "d")))

    def test_let_by_for_the_product(self):
        for net in [*small_nets(), *large_nets()]:
            for one, other in (((1, 1), (3, 2)), ((3, 2), (3, 2)), ((3, 1), (5, 4)), ((1000, 1), (1000, 1))):
                thin = thinned(net, one)
                thinner = thinned(thin, other)
                ways = ways_paper(net, one, thin)
                more = ways_paper(thin, other, thinner)
                told = kept_as_it_was(self, composed, net, thin, thinner, ways, more)
                self.assertIs(judged_ways(net, product(one, other), thinner, told), True)
                self.assertIs(lets_ways(net, product(one, other), thinner, told), True)
                self.assertTrue(keeps(net, product(one, other), thinner))
                self.assertEqual(told, composed_plainly(net, thin, thinner, ways, more))

    def test_all_thin_nets_of_thin_nets(self):
        one = (2, 1)
        other = (3, 1)
        for net in [net for net in small_nets() if len(net[1]) < 7]:
            for thin in thin_nets(net):
                ways = ways_paper(net, one, thin)
                for thinner in thin_nets(thin) if ways is not None else []:
                    more = ways_paper(thin, other, thinner)
                    if more is not None:
                        told = composed(net, thin, thinner, ways, more)
                        self.assertEqual(told, composed_plainly(net, thin, thinner, ways, more))
                        self.assertIs(judged_ways(net, (6, 1), thinner, told), True)

    def test_ways_round_about(self):
        # Each way goes over its first step there and back first, as far as times let it.
        for net in small_nets()[4:] + large_nets():
            thin = steady_thinned(net, (3, 2), 1)
            thinner = thinned(thin, (3, 2))
            ways = tuple(way[:2] + way for way in ways_paper(net, (3, 2), thin))
            more = tuple(way[:2] + way for way in ways_paper(thin, (3, 2), thinner))
            self.tells(composed_plainly(net, thin, thinner, ways, more), net, thin, thinner, ways, more)

    def test_three_nets_put_together_in_either_order(self):
        for net in [*small_nets(), *large_nets(), mixed_net(3, 8, 20, range(5, 12))]:
            for times in (((5, 4), (3, 2), (2, 1)), ((2, 1), (2, 1), (2, 1)), ((3, 2), (10, 1), (10, 1))):
                nets = [net]
                papers = []
                for one in times:
                    nets.append(thinned(nets[-1], one))
                    papers.append(ways_paper(nets[-2], one, nets[-1]))
                whole, one, two, three = nets
                ahead = composed(whole, two, three, composed(whole, one, two, papers[0], papers[1]), papers[2])
                behind = composed(whole, one, three, papers[0], composed(one, two, three, papers[1], papers[2]))
                all_times = product(product(times[0], times[1]), times[2])
                self.assertEqual(all_times, product(times[0], product(times[1], times[2])))
                for told in (ahead, behind):
                    self.assertIs(lets_ways(net, all_times, three, told), True)
                    self.assertEqual(len(told), len(out_of(net, three)))

    def test_asked_again(self):
        thin = without(KITE, "ad")
        thinner = without(KITE, "ac", "ad")
        first = composed(KITE, thin, thinner, (("a", "c", "d"),), (("a", "b", "c"),))
        composed(KITE, thin, thin, (("a", "c", "d"),), ())
        self.assertEqual(composed(KITE, thin, thinner, (("a", "c", "d"),), (("a", "b", "c"),)), first)
        self.assertEqual(only(KITE, KITE[1]), KITE)


if __name__ == "__main__":
    unittest.main()
