import unittest

from plainly import all_least, in_order, judged_pairs, keeps_for, thinned_for_pairs_plainly, within
from samples import (
    ALIKE, BARE, EMPTY, FOUR, KITE, NET, SOME_TIMES, is_plain, kept_as_it_was, large_nets, mixed_net, nets_of,
    small_nets, some_pairs, thin_nets,
)
from thinnet.nets import is_net, is_thin
from thinnet.pairchecking import lets_pairs
from thinnet.pairs import keeps_pairs, pairs_paper, thinned_for_pairs
from thinnet.thinning import thinned

FEW_TIMES = [(1, 1), (5, 4), (3, 2), (3, 1), (10 ** 6, 1)]


def with_just(net, *ends):
    """The thin net with the ties between these places, each told as ab."""
    return (net[0], tuple(tie for tie in net[1] if tie[0] + tie[1] in ends))


def pairs_to_look_at(net):
    return [some_pairs(net, many, many) for many in (0, 1, 2, 3, 6)]


class KeepsPairs(unittest.TestCase):
    def tells(self, right, net, times, pairs, thin):
        told = kept_as_it_was(self, keeps_pairs, net, times, pairs, thin)
        self.assertIs(told, right, (net, times, pairs, thin))

    def test_just_within_and_just_beyond(self):
        # From a to c 4 by the net, 5 by b; from a to d 6, 9 by b and c.
        row = with_just(KITE, "ab", "bc", "cd")
        self.tells(True, KITE, (5, 4), (("a", "c"),), row)
        self.tells(False, KITE, (124, 100), (("a", "c"),), row)
        self.tells(True, KITE, (3, 2), (("a", "d"),), row)
        self.tells(False, KITE, (149, 100), (("a", "d"),), row)
        self.tells(False, KITE, (5, 4), (("a", "c"), ("a", "d")), row)
        self.tells(True, KITE, (3, 2), (("a", "c"), ("a", "d")), row)
        self.tells(True, KITE, (1, 1), (("a", "b"), ("b", "d"), ("c", "d")), row)

    def test_it_is_the_least_way_of_the_net_that_counts(self):
        # The tie ac of 9 is longer than abc of 8.
        self.tells(True, NET, (1, 1), (("a", "c"),), with_just(NET, "ab", "bc"))
        self.tells(False, NET, (1, 1), (("a", "c"),), with_just(NET, "ac"))
        self.tells(True, NET, (9, 8), (("a", "c"),), with_just(NET, "ac"))

    def test_pairs_that_no_way_joins(self):
        for pairs in ((("a", "e"),), (("a", "e"), ("d", "f")), ()):
            self.tells(True, NET, (1, 1), pairs, (NET[0], ()))
            self.tells(True, NET, (1, 1), pairs, NET)
        self.tells(False, NET, (10 ** 6, 1), (("a", "e"), ("e", "f")), (NET[0], ()))
        self.tells(False, NET, (10 ** 6, 1), (("a", "b"), ("a", "e")), (NET[0], ()))
        self.tells(True, NET, (1, 1), (("a", "e"), ("e", "f")), with_just(NET, "ef"))

    def test_no_ties_and_no_places(self):
        self.tells(True, EMPTY, (1, 1), (), EMPTY)
        self.tells(True, BARE, (1, 1), (("a", "b"), ("c", "d")), BARE)

    def test_all_thin_nets_of_small_nets(self):
        for net in small_nets():
            for pairs in pairs_to_look_at(net):
                for thin in list(thin_nets(net))[::3]:
                    for times in ((1, 1), (3, 2), (10 ** 6, 1)):
                        self.tells(keeps_for(net, times, pairs, thin), net, times, pairs, thin)

    def test_a_thin_net_that_keeps_times_keeps_them_for_all_pairs(self):
        for net in large_nets():
            for times in ((1, 1), (3, 2), (10 ** 6, 1)):
                pairs = some_pairs(net, 5, 30)
                self.tells(True, net, times, pairs, thinned(net, times))


class ThinnedForPairs(unittest.TestCase):
    def tells(self, right, net, times, pairs):
        told = kept_as_it_was(self, thinned_for_pairs, net, times, pairs)
        self.assertEqual(told, right, (net, times, pairs))
        self.assertTrue(is_plain(told) and is_net(told) and is_thin(net, told))

    def looks_right(self, net, times, pairs):
        self.tells(thinned_for_pairs_plainly(net, times, pairs), net, times, pairs)
        told = thinned_for_pairs(net, times, pairs)
        self.assertTrue(keeps_for(net, times, pairs, told))
        for tie in told[1]:
            less = (told[0], tuple(other for other in told[1] if other != tie))
            self.assertFalse(keeps_for(net, times, pairs, less), (net, times, pairs, tie))

    def test_one_pair_by_hand(self):
        # In order: ab 2, bc 3, ac 4, cd 4, ad 6; they are gone through from ad to ab.
        for times, ends in (
            ((1, 1), ["ac"]), ((124, 100), ["ac"]), ((5, 4), ["ab", "bc"]), ((10 ** 6, 1), ["ab", "bc"]),
        ):
            self.tells(with_just(KITE, *ends), KITE, times, (("a", "c"),))
        for times, ends in (
            ((1, 1), ["ad"]), ((133, 100), ["ad"]), ((4, 3), ["ac", "cd"]), ((149, 100), ["ac", "cd"]),
            ((3, 2), ["ab", "bc", "cd"]),
        ):
            self.tells(with_just(KITE, *ends), KITE, times, (("a", "d"),))

    def test_several_pairs_by_hand(self):
        self.tells(with_just(KITE, "ac", "bc", "cd"), KITE, (1, 1), (("a", "c"), ("b", "d")))
        self.tells(with_just(KITE, "ab", "bc", "cd"), KITE, (3, 2), (("a", "d"), ("b", "c")))
        self.tells(with_just(NET, "ab", "bc", "cd"), NET, (1, 1), (("a", "d"), ("a", "e")))

    def test_which_stay_where_several_choices_would_do(self):
        # One tie would do for bc, but it goes behind ab and ac.
        self.tells(with_just(ALIKE, "ab", "ac"), ALIKE, (2, 1), (("b", "c"),))
        self.tells(with_just(ALIKE, "bc"), ALIKE, (199, 100), (("b", "c"),))
        self.tells(with_just(ALIKE, "ab", "ac"), ALIKE, (2, 1), (("a", "b"), ("a", "c")))
        self.tells(with_just(ALIKE, "ab", "ac", "ad"), ALIKE, (2, 1), (("b", "c"), ("b", "d"), ("c", "d")))
        # Of two ways of like length the one goes that has the last tie in order.
        ways = (FOUR, (("a", "b", 1), ("a", "c", 2), ("b", "d", 3), ("c", "d", 2)))
        self.tells(with_just(ways, "ac", "cd"), ways, (1, 1), (("a", "d"),))
        self.tells(with_just(ALIKE, "ac", "bc"), (FOUR, ALIKE[1][1:4]), (2, 1), (("a", "b"),))

    def test_no_pairs_and_pairs_that_no_way_joins(self):
        for times in SOME_TIMES:
            for net in (NET, KITE, ALIKE, BARE, EMPTY):
                self.tells((net[0], ()), net, times, ())
            self.tells((NET[0], ()), NET, times, (("a", "e"), ("b", "f")))
            self.tells(with_just(NET, "ef"), NET, times, (("a", "e"), ("e", "f")))
            self.tells(BARE, BARE, times, (("a", "b"), ("c", "d")))

    def test_bounds_of_lengths(self):
        net = (("a", "b", "c"), (("a", "b", 10 ** 6), ("a", "c", 1), ("b", "c", 10 ** 6)))
        self.tells(with_just(net, "bc"), net, (1, 1), (("b", "c"),))
        self.tells(with_just(net, "ab", "ac"), net, (10 ** 6, 10 ** 6 - 1), (("b", "c"),))
        self.tells(with_just(net, "ac"), net, (10 ** 6, 1), (("a", "c"),))

    def test_small_nets(self):
        for net in small_nets():
            for pairs in pairs_to_look_at(net):
                for times in SOME_TIMES:
                    self.looks_right(net, times, pairs)

    def test_all_nets_of_four_places(self):
        for net in nets_of(FOUR, (0, 1, 2)):
            for times in ((1, 1), (3, 2)):
                self.looks_right(net, times, (("a", "b"), ("a", "d"), ("c", "d")))

    def test_mixed_nets(self):
        for start in range(60):
            net = mixed_net(start, 6 + start % 5, 12 + start % 9, [range(1, 9), range(90, 111), (1, 2)][start % 3])
            self.looks_right(net, FEW_TIMES[start % 5], some_pairs(net, start, 1 + start % 8))

    def test_large_nets_and_thirty_pairs(self):
        for number, net in enumerate(large_nets()):
            self.looks_right(net, FEW_TIMES[number % 5], some_pairs(net, number, 30))
            self.looks_right(net, FEW_TIMES[(number + 1) % 5], some_pairs(net, number, 1))

    def test_asked_again(self):
        first = thinned_for_pairs(KITE, (5, 4), (("a", "c"),))
        thinned_for_pairs(KITE, (1, 1), (("a", "c"),))
        self.assertEqual(thinned_for_pairs(KITE, (5, 4), (("a", "c"),)), first)


class PairsPaper(unittest.TestCase):
    def looks_right(self, net, times, pairs):
        paper = kept_as_it_was(self, pairs_paper, net, times, pairs)
        thin = thinned_for_pairs(net, times, pairs)
        self.assertTrue(type(paper) is tuple and is_plain(paper), (net, times, pairs))
        self.assertEqual((len(paper), len(paper[0]), len(paper[1])), (2, len(pairs), len(thin[1])))
        self.assertIs(judged_pairs(net, times, pairs, thin, paper), True)
        self.assertIs(lets_pairs(net, times, pairs, thin, paper), True)

    def test_by_hand(self):
        self.assertEqual(pairs_paper(EMPTY, (1, 1), ()), ((), ()))
        self.assertEqual(pairs_paper(KITE, (1, 1), ()), ((), ()))
        shown, needed = pairs_paper(NET, (1, 1), (("a", "e"), ("e", "f")))
        self.assertEqual((shown[0], shown[1][:2]), (("apart", ("a", "b", "c", "d")), ("near", ("e", "f"))))
        self.assertEqual([thing[:2] for thing in needed], [(1, ("e", "f"))])

    def test_small_nets(self):
        for net in small_nets():
            for pairs in pairs_to_look_at(net):
                for times in SOME_TIMES:
                    self.looks_right(net, times, pairs)

    def test_large_nets_and_thirty_pairs(self):
        for number, net in enumerate(large_nets()):
            self.looks_right(net, FEW_TIMES[number % 5], some_pairs(net, number, 30))
            self.looks_right(net, FEW_TIMES[(number + 2) % 5], some_pairs(net, number, 2))

    def test_it_tells_how_far_the_pairs_are(self):
        for net in large_nets()[:4]:
            pairs = some_pairs(net, 3, 10)
            least = all_least(net)
            shown, needed = pairs_paper(net, (3, 2), pairs)
            thin = thinned_for_pairs(net, (3, 2), pairs)
            for pair, thing in zip(pairs, shown):
                self.assertEqual(thing[0], "near" if pair in least else "apart")
            for tie, thing in zip(in_order(thin[1]), needed):
                less = (thin[0], tuple(other for other in thin[1] if other != tie))
                pair = pairs[thing[0]]
                lost = all_least(less).get(pair)
                self.assertTrue(lost is None or not within(lost, (3, 2), least[pair]))

    def test_asked_again(self):
        first = pairs_paper(KITE, (3, 2), (("a", "d"),))
        pairs_paper(KITE, (1, 1), (("a", "d"),))
        thin = thinned_for_pairs(KITE, (3, 2), (("a", "d"),))
        self.assertIs(lets_pairs(KITE, (3, 2), (("a", "d"),), thin, first), True)


if __name__ == "__main__":
    unittest.main()
