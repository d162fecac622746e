import unittest

from plainly import is_steady, judged_breaking, steady_plainly, thinned_plainly
from samples import (
    ALIKE, BARE, EMPTY, FOUR, KITE, NET, SOME_TIMES, full_net, is_plain, kept_as_it_was, large_nets, mixed_net, nets_of,
    ring, small_nets,
)
from thinnet.breakchecking import lets_breaking
from thinnet.nets import is_net, is_thin
from thinnet.steady import breaking_paper, steady_thinned
from thinnet.thinning import thinned

# From a to b lead acdb of 3, acb of 4 and aeb of 4: the first two have ac in common.
SHARED = (
    ("a", "b", "c", "d", "e"),
    (("a", "b", 10), ("a", "c", 1), ("a", "e", 2), ("b", "c", 3), ("b", "d", 1), ("b", "e", 2), ("c", "d", 1)),
)
# From a to b lead acb of 6, adb of 8 and aeb of 10, and they have no tie in common.
APART = (
    ("a", "b", "c", "d", "e"),
    (("a", "b", 6), ("a", "c", 3), ("a", "d", 4), ("a", "e", 5), ("b", "c", 3), ("b", "d", 4), ("b", "e", 5)),
)
# From a to b lead acdb and aceb of 4, afdb and afeb of 4, and longer ones: no one tie is in all of them.
MESH = (
    ("a", "b", "c", "d", "e", "f"),
    (("a", "b", 9), ("a", "c", 1), ("a", "f", 1), ("b", "d", 1), ("b", "e", 1), ("c", "d", 2), ("c", "e", 2),
     ("d", "f", 2), ("e", "f", 2)),
)


def without(net, *ends):
    """The net without the ties between these places, each told as ab."""
    return (net[0], tuple(tie for tie in net[1] if tie[0] + tie[1] not in ends))


def middle_nets():
    """Nets that all choices of two ties can still be looked at of."""
    return [
        full_net(6, 15), full_net(7, 18, 10 ** 6), mixed_net(1, 8, 16, range(1, 9)),
        mixed_net(2, 7, 16, range(90, 111)),
        mixed_net(3, 9, 14, [1, 10, 100]), mixed_net(4, 7, 16, [1]), mixed_net(5, 6, 15, range(1, 10 ** 6 + 1)),
        mixed_net(6, 12, 14, range(1, 30)), mixed_net(7, 6, 15, range(5, 9)),
    ]


class SteadyThinned(unittest.TestCase):
    def tells(self, right, net, times, many):
        told = kept_as_it_was(self, steady_thinned, net, times, many)
        self.assertEqual(told, right, (net, times, many))
        self.assertTrue(is_plain(told) and is_net(told) and is_thin(net, told))

    def test_kite_by_hand(self):
        self.tells(without(KITE, "ac", "ad"), KITE, (3, 2), 0)
        # Of ac there is abc alone. Without cd none of its ways leads to d.
        for times in SOME_TIMES:
            self.tells(KITE, KITE, times, 1)
            self.tells(KITE, KITE, times, 2)

    def test_like_lengths_by_hand(self):
        # Of cd there are cad and cbd of 10; each other tie can be lost by one of those ahead.
        self.tells(without(ALIKE, "bc", "bd", "cd"), ALIKE, (2, 1), 0)
        self.tells(without(ALIKE, "cd"), ALIKE, (2, 1), 1)
        self.tells(without(ALIKE, "cd"), ALIKE, (10 ** 6, 1), 1)
        self.tells(ALIKE, ALIKE, (2 * 10 ** 5 - 1, 10 ** 5), 1)
        self.tells(ALIKE, ALIKE, (1, 1), 1)
        self.tells(ALIKE, ALIKE, (2, 1), 2)
        self.tells(ALIKE, ALIKE, (10 ** 6, 1), 2)

    def test_ways_that_have_a_tie_in_common(self):
        # Of bc 3 there is bdc of 2 alone within times: so one tie is enough to lose it.
        self.tells(without(SHARED, "ab", "bc"), SHARED, (1, 1), 0)
        self.tells(without(SHARED, "ab"), SHARED, (1, 1), 1)
        self.tells(SHARED, SHARED, (1, 1), 2)
        # Without ae, one tie is enough for both ways of ab, though they part behind it.
        less = without(SHARED, "ae", "be")
        self.tells(less, less, (1, 1), 1)
        self.tells(without(less, "ab", "bc"), less, (1, 1), 0)

    def test_ways_without_a_tie_in_common(self):
        self.tells(without(APART, "ab"), APART, (1, 1), 0)
        self.tells(APART, APART, (1, 1), 1)
        # Just within 8/6 of 6 is adb, and aeb just within 10/6.
        self.tells(without(APART, "ab"), APART, (8, 6), 1)
        self.tells(APART, APART, (799999, 600000), 1)
        self.tells(APART, APART, (8, 6), 2)
        self.tells(without(APART, "ab"), APART, (10, 6), 2)
        self.tells(APART, APART, (999999, 600000), 2)

    def test_ways_that_cross(self):
        # By 3 just cd is needed of the middle ones; with one tie broken, ce and df too; with two, each one.
        for many, right in ((0, ("ab", "ce", "df", "ef")), (1, ("ab", "ef")), (2, ())):
            self.tells(without(MESH, *right), MESH, (3, 1), many)
        self.tells(without(MESH, "ab"), MESH, (1, 1), 0)
        self.tells(without(MESH, "ab"), MESH, (1, 1), 1)
        self.tells(MESH, MESH, (1, 1), 2)

    def test_rings_and_nets_of_one_tie(self):
        self.tells(without(ring(FOUR, 7), "cd"), ring(FOUR, 7), (3, 1), 0)
        for many in (1, 2):
            self.tells(ring(FOUR, 7), ring(FOUR, 7), (10 ** 6, 1), many)
        for length in (1, 10 ** 6):
            one = (("a", "b"), (("a", "b", length),))
            for many in (0, 1, 2):
                self.tells(one, one, (10 ** 6, 1), many)

    def test_no_ties_and_no_places(self):
        for net in (EMPTY, BARE, (("a",), ())):
            for times in SOME_TIMES:
                for many in (0, 1, 2):
                    self.tells(net, net, times, many)

    def test_in_pieces(self):
        self.tells(without(NET, "ac", "bd"), NET, (1, 1), 0)
        self.tells(NET, NET, (10 ** 6, 1), 1)
        two = (tuple("abcdefgh"), ALIKE[1] + tuple((a, b, 5) for a in "efg" for b in "fgh" if a < b))
        self.tells(without(two, "cd", "gh"), two, (2, 1), 1)

    def test_of_many_0_it_is_the_net_thinned_by_times(self):
        for net in [*small_nets(), *large_nets(), SHARED, APART, MESH]:
            for times in ((1, 1), (3, 2), (3, 1), (10 ** 6, 1)):
                self.tells(thinned_plainly(net, times), net, times, 0)
                self.assertEqual(steady_thinned(net, times, 0), thinned(net, times))

    def test_by_all_choices_of_kept_ties(self):
        for net in [*small_nets(), *nets_of(FOUR, (0, 1, 2)), SHARED, APART, MESH]:
            for times in ((1, 1), (3, 2), (2, 1), (10 ** 6, 1)):
                for many in (1, 2):
                    self.tells(steady_plainly(net, times, many), net, times, many)

    def test_by_all_choices_of_more_ties(self):
        left_out = 0
        for net in middle_nets():
            for times in ((3, 2), (2, 1), (10 ** 6, 1)):
                for many in (1, 2):
                    right = steady_plainly(net, times, many)
                    self.tells(right, net, times, many)
                    left_out += len(net[1]) - len(right[1])
        self.assertGreater(left_out, 50)

    def test_it_is_steady(self):
        for net in [*small_nets(), SHARED, APART, MESH]:
            for times in ((1, 1), (3, 2), (3, 1), (10 ** 6, 1)):
                for many in (0, 1, 2):
                    self.assertTrue(is_steady(net, times, many, steady_thinned(net, times, many)))
        for net in middle_nets():
            for many in (1, 2):
                self.assertTrue(is_steady(net, (2, 1), many, steady_thinned(net, (2, 1), many)))

    def test_what_is_less_steady_is_seen(self):
        self.assertFalse(is_steady(SHARED, (1, 1), 2, steady_thinned(SHARED, (1, 1), 1)))
        self.assertFalse(is_steady(SHARED, (1, 1), 1, steady_thinned(SHARED, (1, 1), 0)))

    def test_somewhat_more_than_two(self):
        net = full_net(5, 10)
        for many in (3, 4):
            self.tells(steady_plainly(net, (3, 1), many), net, (3, 1), many)

    def test_asked_again(self):
        first = steady_thinned(SHARED, (1, 1), 1)
        steady_thinned(SHARED, (1, 1), 2)
        self.assertEqual(steady_thinned(SHARED, (1, 1), 1), first)


class BreakingPaper(unittest.TestCase):
    def looks_right(self, net, times, many):
        paper = kept_as_it_was(self, breaking_paper, net, times, many)
        thin = steady_thinned(net, times, many)
        self.assertTrue(type(paper) is tuple and is_plain(paper))
        self.assertIs(judged_breaking(net, times, many, thin, paper), True, (net, times, many))
        self.assertIs(lets_breaking(net, times, many, thin, paper), True)

    def test_by_hand(self):
        # In order: ab, ac, ad, bc, bd, cd. Of cd there are just two ways within times.
        paper = breaking_paper(ALIKE, (2, 1), 1)
        self.assertEqual([entry[0] for entry in paper], ["in"] * 5 + ["out"])
        self.assertEqual([len(entry[1]) for entry in paper[:3]], [0, 0, 0])
        one = (("c", "a", "d"), ())
        other = (("c", "b", "d"), ())
        self.assertIn(paper[5][1], [(one[0], (other, other)), (other[0], (one, one))])
        self.assertEqual(breaking_paper(EMPTY, (3, 2), 2), ())
        self.assertEqual(breaking_paper(BARE, (3, 2), 1), ())

    def test_broken_ties_by_hand(self):
        # For ab 10 of the net whose ways have ac in common, one of ae and be must break beside ac.
        paper = breaking_paper(SHARED, (1, 1), 2)
        self.assertEqual(paper[6][0], "in")
        self.assertEqual(paper[6][1][0], ("a", "c", 1))
        self.assertIn(paper[6][1][1], [("a", "e", 2), ("b", "e", 2)])
        less = without(SHARED, "ae", "be")
        self.assertEqual(breaking_paper(less, (1, 1), 1)[4][:2], ("in", (("a", "c", 1),)))

    def test_small_nets(self):
        for net in [*small_nets(), *nets_of(FOUR, (0, 1, 2)), SHARED, APART, MESH]:
            for times in ((1, 1), (3, 2), (2, 1), (10 ** 6, 1)):
                for many in (0, 1, 2):
                    self.looks_right(net, times, many)

    def test_large_nets(self):
        for net in [*large_nets(), *middle_nets()]:
            for times in ((1, 1), (3, 1), (10 ** 6, 1)):
                for many in (0, 1, 2):
                    self.looks_right(net, times, many)

    def test_asked_again(self):
        first = breaking_paper(SHARED, (1, 1), 1)
        breaking_paper(SHARED, (1, 1), 2)
        thin = steady_thinned(SHARED, (1, 1), 1)
        self.assertIs(lets_breaking(SHARED, (1, 1), 1, thin, first), True)
        self.assertIs(lets_breaking(SHARED, (1, 1), 1, thin, breaking_paper(SHARED, (1, 1), 1)), True)


if __name__ == "__main__":
    unittest.main()
