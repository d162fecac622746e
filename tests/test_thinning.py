import unittest

from plainly import all_least, in_order, judged_greedy, judged_ways, keeps, rank, rounds_of, thinned_plainly, within
from samples import (
    ALIKE, BARE, EMPTY, FOUR, KITE, NET, SOME_TIMES, is_plain, kept_as_it_was, large_nets, mixed_net, nets_of, ring,
    small_nets, thin_nets,
)
from thinnet.checking import lets_greedy, lets_ways
from thinnet.nets import is_net, is_thin, left_out, only, order_of
from thinnet.thinning import greedy_paper, is_within, thinned, ways_paper
from thinnet.ways import length_of, round_of

GREAT = 10 ** 40 - 1


def without(net, *ends):
    """The net without the ties between these places, each told as ab."""
    return (net[0], tuple(tie for tie in net[1] if tie[0] + tie[1] not in ends))


class Within(unittest.TestCase):
    def tells(self, right, length, times, number):
        self.assertIs(kept_as_it_was(self, is_within, length, times, number), right, (length, times, number))

    def test_just_within_and_just_beyond(self):
        for times, number, most in (
            ((1, 1), 7, 7), ((3, 2), 6, 9), ((3, 2), 5, 7), ((3, 2), 1, 1), ((5, 4), 4, 5),
            ((10 ** 6, 1), 3, 3 * 10 ** 6),
            ((10 ** 6, 10 ** 6 - 1), 10 ** 6 - 1, 10 ** 6), ((10 ** 6, 10 ** 6 - 1), 10 ** 6 - 2, 10 ** 6 - 2),
            ((10 ** 6, 10 ** 6), 10 ** 6, 10 ** 6), ((10 ** 6, 1), 10 ** 6, 10 ** 12),
        ):
            self.tells(True, most, times, number)
            self.tells(False, most + 1, times, number)
            self.tells(True, 0, times, number)

    def test_nought(self):
        for times in SOME_TIMES:
            self.tells(True, 0, times, 0)
            self.tells(False, 1, times, 0)

    def test_forty_figures(self):
        self.tells(True, GREAT, (1, 1), GREAT)
        self.tells(False, GREAT, (1, 1), GREAT - 1)
        self.tells(True, GREAT, (10 ** 6, 10 ** 6), GREAT)
        self.tells(False, GREAT, (2, 1), GREAT // 2)
        self.tells(True, GREAT, (2, 1), GREAT // 2 + 1)
        self.tells(False, GREAT, (10 ** 6, 1), 10 ** 34 - 1)
        self.tells(True, GREAT, (10 ** 6, 1), 10 ** 34)

    def test_as_fractions_tell(self):
        for times in ((1, 1), (3, 2), (7, 3), (7, 5), (10, 9)):
            for length in range(25):
                for number in range(25):
                    self.tells(within(length, times, number), length, times, number)


class Thinned(unittest.TestCase):
    def tells(self, right, net, times):
        told = kept_as_it_was(self, thinned, net, times)
        self.assertEqual(told, right, (net, times))
        self.assertTrue(is_plain(told) and is_net(told) and is_thin(net, told))

    def test_kite_by_hand(self):
        # Of ac 4 there is abc of 5. Of ad 6 there is abcd of 9, and acd of 8 where ac is kept.
        self.tells(KITE, KITE, (1, 1))
        self.tells(KITE, KITE, (124, 100))
        self.tells(without(KITE, "ac"), KITE, (5, 4))
        self.tells(without(KITE, "ac"), KITE, (149, 100))
        self.tells(without(KITE, "ac", "ad"), KITE, (3, 2))
        self.tells(without(KITE, "ac", "ad"), KITE, (10 ** 6, 1))

    def test_net_by_hand(self):
        # Of ac 9 there is abc of 8, of bd 10 there is bcd of 7.
        for times in SOME_TIMES:
            self.tells(without(NET, "ac", "bd"), NET, times)

    def test_like_lengths_by_hand(self):
        # In order ab, ac, ad, bc, bd, cd: from 2 on the first three are enough.
        self.tells(ALIKE, ALIKE, (1, 1))
        self.tells(ALIKE, ALIKE, (10 ** 6, 10 ** 6 - 1))
        self.tells(ALIKE, ALIKE, (2 * 10 ** 5 - 1, 10 ** 5))
        self.tells(without(ALIKE, "bc", "bd", "cd"), ALIKE, (2, 1))
        # The ring's last tie in order is cd; round it are three ties.
        self.tells(ring(FOUR, 7), ring(FOUR, 7), (2, 1))
        self.tells(without(ring(FOUR, 7), "cd"), ring(FOUR, 7), (3, 1))

    def test_a_way_as_long_as_the_tie_is_enough(self):
        net = (("a", "b", "c"), (("a", "b", 1), ("a", "c", 2), ("b", "c", 1)))
        self.tells(without(net, "ac"), net, (1, 1))

    def test_by_kept_ties_alone(self):
        # By 4/3 acd of 8 would do for ad 6, but ac is left out, and abcd of 9 does not.
        self.tells(without(KITE, "ac"), KITE, (4, 3))
        self.tells(without(KITE, "bc", "ad"), without(KITE, "bc"), (4, 3))

    def test_bounds(self):
        far_round = (("a", "b", "c"), (("a", "b", 1), ("a", "c", 10 ** 6), ("b", "c", 10 ** 6)))
        # Of bc there is bac of 10 ** 6 + 1.
        self.tells(far_round, far_round, (1, 1))
        self.tells(without(far_round, "bc"), far_round, (10 ** 6, 10 ** 6 - 1))
        two = (("a", "b", "c"), (("a", "b", 1), ("a", "c", 1), ("b", "c", 10 ** 6)))
        self.tells(without(two, "bc"), two, (1, 1))

    def test_no_ties_and_no_places(self):
        for net in (EMPTY, BARE, (("a",), ())):
            for times in SOME_TIMES:
                self.tells(net, net, times)

    def test_as_the_document_goes_through_them(self):
        for net in [*small_nets(), *nets_of(FOUR, (0, 1, 2))]:
            for times in SOME_TIMES:
                self.tells(thinned_plainly(net, times), net, times)

    def test_large_nets(self):
        for net in large_nets():
            for times in ((1, 1), (3, 2), (3, 1), (10 ** 6, 1)):
                self.tells(thinned_plainly(net, times), net, times)

    def test_all_places_stay_within_times(self):
        for net in [*small_nets(), *large_nets()]:
            least = all_least(net)
            for times in ((1, 1), (3, 2), (3, 1), (10 ** 6, 1)):
                thin = thinned(net, times)
                self.assertTrue(keeps(net, times, thin))
                by_thin = all_least(thin)
                self.assertEqual(sorted(least), sorted(by_thin))
                self.assertTrue(all(within(by_thin[pair], times, least[pair]) for pair in least))

    def test_asked_again(self):
        first = thinned(KITE, (3, 2))
        self.assertEqual(thinned(KITE, (1, 1)), KITE)
        self.assertEqual(thinned(KITE, (3, 2)), first)


class Rounds(unittest.TestCase):
    def looks_right(self, thin, times, found):
        for ties in found:
            self.assertGreater((len(ties) - 1) * times[1], times[0], (thin, times))
            last = max(ties, key=rank)
            others = sum(length for a, b, length in ties) - last[2]
            self.assertFalse(within(others, times, last[2]), (thin, times))

    def test_each_round_of_small_nets(self):
        many = 0
        for net in [*small_nets(), *nets_of(FOUR, (0, 4, 5)), *(mixed_net(k, 6, 12, range(9, 15)) for k in range(9))]:
            for times in ((1, 1), (5, 4), (3, 2), (2, 1), (3, 1)):
                thin = thinned(net, times)
                found = list(rounds_of(thin))
                many += len(found)
                self.looks_right(thin, times, found)
        self.assertGreater(many, 1000)

    def test_the_fewest_ties_of_large_nets(self):
        for net in large_nets():
            for times in ((1, 1), (2, 1), (3, 1), (7, 2), (5, 1)):
                thin = thinned(net, times)
                told = round_of(thin)
                if told is not None:
                    ties = [tuple(sorted(pair)) for pair in zip(told, told[1:] + told[:1])]
                    self.looks_right(thin, times, [[tie for tie in thin[1] if tie[:2] in ties]])

    def test_no_round_of_so_few(self):
        thin = thinned(mixed_net(3, 12, 60, [1]), (4, 1))
        self.assertTrue(round_of(thin) is None or len(round_of(thin)) > 5)


class GreedyPaper(unittest.TestCase):
    def looks_right(self, net, times):
        paper = kept_as_it_was(self, greedy_paper, net, times)
        thin = thinned(net, times)
        self.assertTrue(type(paper) is tuple and is_plain(paper))
        self.assertIs(judged_greedy(net, times, thin, paper), True)
        self.assertIs(lets_greedy(net, times, thin, paper), True)

    def test_by_hand(self):
        words = [entry[0] for entry in greedy_paper(KITE, (3, 2))]
        self.assertEqual(words, ["in", "in", "out", "in", "out"])
        # By these the ways are the only ones that go to no place twice, and shorter than any other.
        self.assertEqual(greedy_paper(KITE, (3, 2))[2], ("out", ("a", "b", "c")))
        self.assertEqual(greedy_paper(KITE, (3, 2))[4], ("out", ("a", "b", "c", "d")))
        self.assertEqual(greedy_paper(EMPTY, (3, 2)), ())
        self.assertEqual(greedy_paper(BARE, (3, 2)), ())

    def test_small_nets(self):
        for net in [*small_nets(), *nets_of(FOUR, (0, 1, 2))]:
            for times in SOME_TIMES:
                self.looks_right(net, times)

    def test_large_nets(self):
        for net in large_nets():
            for times in ((1, 1), (3, 2), (10 ** 6, 1)):
                self.looks_right(net, times)

    def test_asked_again(self):
        first = greedy_paper(KITE, (3, 2))
        greedy_paper(KITE, (1, 1))
        thin = thinned(KITE, (3, 2))
        self.assertIs(lets_greedy(KITE, (3, 2), thin, first), True)
        self.assertIs(lets_greedy(KITE, (3, 2), thin, greedy_paper(KITE, (3, 2))), True)


class WaysPaper(unittest.TestCase):
    def looks_right(self, net, times, thin):
        paper = kept_as_it_was(self, ways_paper, net, times, thin)
        if not keeps(net, times, thin):
            self.assertIsNone(paper, (net, times, thin))
            return
        self.assertTrue(type(paper) is tuple and is_plain(paper), (net, times, thin))
        self.assertIs(judged_ways(net, times, thin, paper), True)
        self.assertIs(lets_ways(net, times, thin, paper), True)

    def test_by_hand(self):
        thin = without(KITE, "ac", "ad")
        self.assertEqual(ways_paper(KITE, (3, 2), thin), (("a", "b", "c"), ("a", "b", "c", "d")))
        self.assertIsNone(ways_paper(KITE, (149, 100), thin))
        self.assertIsNone(ways_paper(KITE, (10 ** 6, 1), without(KITE, "ab", "ac", "ad")))
        self.assertEqual(ways_paper(KITE, (1, 1), KITE), ())
        self.assertEqual(ways_paper(EMPTY, (1, 1), EMPTY), ())
        self.assertEqual(ways_paper(BARE, (1, 1), BARE), ())

    def test_one_far_tie_among_near_ones(self):
        # Of ab 1 there is acb of 6, of ad 2 there is acd of 6.
        net = (FOUR, (("a", "b", 1), ("a", "c", 3), ("a", "d", 2), ("b", "c", 3), ("c", "d", 3)))
        thin = without(net, "ab", "ad")
        self.assertIsNone(ways_paper(net, (5, 1), thin))
        self.assertIsNone(ways_paper(net, (3, 1), thin))
        self.assertEqual(ways_paper(net, (6, 1), thin), (("a", "c", "b"), ("a", "c", "d")))

    def test_all_thin_nets_of_small_nets(self):
        for net in small_nets():
            for thin in thin_nets(net):
                for times in ((1, 1), (3, 2), (3, 1), (10 ** 6, 1)):
                    self.looks_right(net, times, thin)

    def test_large_nets(self):
        for net in large_nets():
            for times in ((1, 1), (3, 2), (10 ** 6, 1)):
                self.looks_right(net, times, thinned(net, times))
                self.looks_right(net, times, only(net, order_of(net[1])[:40]))
                self.looks_right(net, times, only(net, net[1][::2]))

    def test_the_way_is_by_the_thin_net(self):
        thin = without(KITE, "ac")
        (way,) = ways_paper(KITE, (2, 1), thin)
        self.assertEqual((left_out(KITE, thin), way[0], way[-1]), ([("a", "c", 4)], "a", "c"))
        self.assertLessEqual(length_of(thin, way), 8)

    def test_in_order_of_the_ties_left_out(self):
        thin = without(NET, "ac", "bd")
        for (a, b, length), way in zip(in_order([("b", "d", 10), ("a", "c", 9)]), ways_paper(NET, (1, 1), thin)):
            self.assertEqual((way[0], way[-1]), (a, b))


if __name__ == "__main__":
    unittest.main()
