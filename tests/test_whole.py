"""What point 4 promises of the whole program, by nets of all sorts and with its own checkers."""

import unittest

from plainly import (
    all_least, in_order, is_steady, is_tree_plainly, keeps, keeps_for, least_many, least_tree_plainly, out_of, rank,
    rounds_of, thinned_plainly, within,
)
from samples import (
    ALIKE, BARE, EMPTY, KITE, LETTERS, NET, full_net, large_nets, mixed_net, mixed_numbers, ring, small_nets,
    some_pairs,
    thin_nets,
)
from thinnet.breakchecking import lets_breaking
from thinnet.cases import is_least, shows
from thinnet.checking import lets_greedy, lets_ways
from thinnet.errors import NoPaper, ThinError
from thinnet.keeper import Keeper, taken_up
from thinnet.least import least_thin
from thinnet.nets import is_net, is_thin, left_out, only, total
from thinnet.nettexts import read_net, shown
from thinnet.pairchecking import lets_pairs
from thinnet.pairs import keeps_pairs, pairs_paper, thinned_for_pairs
from thinnet.rooted import is_tree_from, light_tree, tree_from
from thinnet.steady import breaking_paper, steady_thinned
from thinnet.thinning import greedy_paper, thinned, ways_paper
from thinnet.trees import least_tree, lets_tree, tree_paper
from thinnet.twice import composed, is_no_stricter, product

TIMES = [(1, 1), (5, 4), (3, 2), (3, 1), (10 ** 6, 1)]


def all_sorts():
    """Nets without ties, in pieces, of like and unlike lengths, close and wide, small and of all places and ties."""
    star = (tuple("abcdefgh"), tuple(("a", b, 3) for b in "bcdefgh"))
    two = (tuple("abcdefgh"), ALIKE[1] + tuple((a, b, 5) for a in "efg" for b in "fgh" if a < b))
    return [EMPTY, BARE, NET, KITE, ALIKE, star, two, ring(tuple(LETTERS[:24]), 7), *small_nets()[8:], *large_nets()]


def small_sorts():
    return [net for net in all_sorts() if len(net[1]) <= 10]


def lets(checker, *things):
    try:
        return checker(*things)
    except NoPaper:
        return False


class Whole(unittest.TestCase):
    def stays_within(self, net, times, thin):
        least = all_least(net)
        by_thin = all_least(thin)
        for pair in least:
            self.assertTrue(pair in by_thin and within(by_thin[pair], times, least[pair]), (net, times, thin, pair))

    def test_what_keeps_times_keeps_them_between_any_two_places(self):
        for net in all_sorts():
            for times in TIMES:
                for thin in (thinned(net, times), steady_thinned(net, times, 1), only(net, net[1])):
                    self.assertIs(lets_ways(net, times, thin, ways_paper(net, times, thin)), True)
                    self.stays_within(net, times, thin)
        for net in small_nets()[:12]:
            for times in ((1, 1), (3, 2), (3, 1)):
                for thin in thin_nets(net):
                    ways = ways_paper(net, times, thin)
                    self.assertEqual(ways is not None, keeps(net, times, thin))
                    if lets(lets_ways, net, times, thin, ways):
                        self.stays_within(net, times, thin)

    def test_thinned_by_times_is_forced_by_its_greedy_paper(self):
        for net in all_sorts():
            for times in TIMES:
                thin = thinned(net, times)
                paper = greedy_paper(net, times)
                self.assertIs(lets_greedy(net, times, thin, paper), True)
                for tie in net[1]:
                    other = [kept for kept in thin[1] if kept != tie] if tie in thin[1] else [*thin[1], tie]
                    self.assertIs(lets(lets_greedy, net, times, only(net, other), paper), False)

    def test_each_round_has_more_ties_than_times_tell(self):
        for net in small_sorts():
            for times in TIMES:
                for ties in rounds_of(thinned(net, times)):
                    self.assertGreater((len(ties) - 1) * times[1], times[0])
                    last = in_order(ties)[-1]
                    self.assertFalse(within(sum(tie[2] for tie in ties) - last[2], times, last[2]))

    def test_steady_for_so_many(self):
        for net in all_sorts():
            for times in ((3, 2), (10 ** 6, 1)):
                for many in (0, 1, 2):
                    thin = steady_thinned(net, times, many)
                    self.assertIs(lets_breaking(net, times, many, thin, breaking_paper(net, times, many)), True)
                    self.assertTrue(len(net[1]) > 10 or is_steady(net, times, many, thin))
        for net in (mixed_net(5, 24, 60, range(1, 10 ** 6 + 1)), full_net(24, 60)):
            self.assertTrue(is_steady(net, (3, 1), 1, steady_thinned(net, (3, 1), 1)))

    def test_by_told_pairs_alone(self):
        for number, net in enumerate(all_sorts()):
            pairs = some_pairs(net, number, 6)
            for times in ((1, 1), (3, 2)):
                thin = thinned_for_pairs(net, times, pairs)
                self.assertIs(lets_pairs(net, times, pairs, thin, pairs_paper(net, times, pairs)), True)
                self.assertTrue(keeps_pairs(net, times, pairs, thin) and keeps_for(net, times, pairs, thin))
                for tie in thin[1]:
                    less = only(net, [other for other in thin[1] if other != tie])
                    self.assertFalse(keeps_pairs(net, times, pairs, less))

    def test_from_one_place(self):
        for net in all_sorts():
            for place in net[0][::5]:
                tree = tree_from(net, place)
                self.assertTrue(is_tree_from(net, place, tree) and is_tree_plainly(net, place, tree))
                least = all_least(net)
                reached = [other for other in net[0] if (place, other) in least]
                for other in reached:
                    self.assertEqual(all_least(tree)[(place, other)], least[(place, other)])
                low = sum(tie[2] for tie in least_tree_plainly(net)[1] if tie[0] in reached)
                for times in ((10 ** 6, 10 ** 6 - 1), (3, 2), (3, 1), (10 ** 6, 1)):
                    light = light_tree(net, place, times)
                    self.assertTrue(is_tree_from(net, place, light))
                    for other in reached:
                        self.assertTrue(within(all_least(light)[(place, other)], times, least[(place, other)]))
                    self.assertLessEqual(total(light) * (times[0] - times[1]), (times[0] + times[1]) * low)

    def test_the_least_tree_is_in_the_net_thinned_by_any_times(self):
        for net in all_sorts():
            tree = least_tree(net)
            self.assertIs(lets_tree(net, tree, tree_paper(net)), True)
            for times in TIMES:
                self.assertTrue(is_thin(thinned(net, times), tree))

    def test_the_least_thin_net(self):
        for net in small_sorts():
            for times in TIMES:
                told = least_thin(net, times)
                self.assertIs(is_least(net, times, told), True)
                many = len(told[0][1])
                self.assertEqual(many, least_many(net, times))
                self.assertLessEqual(many, len(thinned(net, times)[1]))
                self.assertIs(shows(net, times, many + 1, told[2]), False)

    def test_keepers_at_every_moment(self):
        numbers = mixed_numbers(4)
        for times in ((1, 1), (3, 2), (2, 1), (10 ** 6, 1)):
            keeper = Keeper(times)
            for count in range(150):
                a, b = (LETTERS[next(numbers) % 8] for end in "ab")
                net = keeper.net()
                thin = keeper.thin()
                deeds = {
                    0: lambda: keeper.come(a), 1: lambda: keeper.go(a), 2: lambda: keeper.take(a, b),
                    3: lambda: keeper.lay(a, b, 1 + next(numbers) % 9),
                }
                try:
                    came, went = deeds[min(next(numbers) % 9, 3)]()
                except ThinError:
                    self.assertEqual((keeper.net(), keeper.thin()), (net, thin))
                    continue
                self.assertEqual(keeper.thin(), thinned_plainly(keeper.net(), times))
                self.assertIs(lets_greedy(keeper.net(), times, keeper.thin(), greedy_paper(keeper.net(), times)), True)
                changed = set(net[1]) ^ set(keeper.net()[1])
                for tie in came + went:
                    self.assertGreaterEqual(rank(tie), min(map(rank, changed)))

    def test_thinned_twice_a_net_keeps_the_times_multiplied(self):
        for net in all_sorts():
            for one, other in (((5, 4), (3, 2)), ((3, 1), (3, 1)), ((1000, 1), (1000, 1))):
                thin = thinned(net, one)
                thinner = thinned(thin, other)
                paper = composed(net, thin, thinner, ways_paper(net, one, thin), ways_paper(thin, other, thinner))
                self.assertIs(lets_ways(net, product(one, other), thinner, paper), True)
                self.stays_within(net, product(one, other), thinner)

    def test_what_is_no_stricter_is_kept_too(self):
        for net in all_sorts():
            for times in TIMES:
                thin = thinned(net, times)
                for other in TIMES:
                    if is_no_stricter(other, times):
                        self.assertIs(lets_ways(net, other, thin, ways_paper(net, times, thin)), True)

    def test_what_was_told_may_be_handed_in_again(self):
        for net in all_sorts():
            thin = thinned(net, (3, 2))
            for told in (thin, least_tree(net), steady_thinned(net, (3, 2), 1), read_net(shown(thin))):
                self.assertTrue(is_net(told))
                self.assertEqual(thinned(told, (1, 1)), thinned_plainly(told, (1, 1)))
                self.assertEqual(taken_up(shown(told), (3, 2)).net(), told)
            self.assertEqual(left_out(net, thin), out_of(net, thin))


if __name__ == "__main__":
    unittest.main()
