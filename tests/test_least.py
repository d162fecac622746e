import unittest

from plainly import is_least_plainly, judged_ways, keeps, least_many, shows_plainly, thinned_plainly
from samples import (
    ALIKE, BARE, EMPTY, FOUR, KITE, NET, SOME_TIMES, full_net, is_plain, kept_as_it_was, large_nets, mixed_net, nets_of,
    ring, small_nets,
)
from thinnet.cases import is_least, shows
from thinnet.checking import lets_ways
from thinnet.errors import ThinError, TooMany
from thinnet.least import least_thin
from thinnet.nets import is_net, is_thin

# A ring of four ties of 9 round a place e that is 10 from each: the four spokes are enough from 20/9 on.
WHEEL = (
    ("a", "b", "c", "d", "e"),
    (("a", "b", 9), ("a", "d", 9), ("a", "e", 10), ("b", "c", 9), ("b", "e", 10), ("c", "d", 9), ("c", "e", 10),
     ("d", "e", 10)),
)
TEN = full_net(5, 10)


def ten_ties():
    """Nets of just ten ties: of like and unlike lengths, close, wide, in pieces, and without a round."""
    return [
        TEN, full_net(11, 10, 10 ** 6), full_net(7, 10), mixed_net(1, 6, 10, range(1, 9)),
        mixed_net(2, 7, 10, [1, 10, 100]),
        mixed_net(3, 9, 10, range(90, 111)), mixed_net(4, 5, 10, range(1, 10 ** 6 + 1)), mixed_net(5, 24, 10, [1, 2]),
        ring(tuple("abcdefghij"), 3), (tuple("abcdefgh"), KITE[1] + (("e", "f", 2), ("e", "g", 3), ("e", "h", 4),
                                                                    ("f", "g", 4), ("g", "h", 4))),
    ]


class LeastThin(unittest.TestCase):
    def looks_right(self, net, times, many=None):
        told = kept_as_it_was(self, least_thin, net, times)
        self.assertTrue(type(told) is tuple and len(told) == 3 and is_plain(told), (net, times))
        thin, ways, case = told
        self.assertTrue(is_net(thin) and is_thin(net, thin))
        self.assertTrue(keeps(net, times, thin))
        self.assertEqual(len(thin[1]), least_many(net, times) if many is None else many, (net, times))
        self.assertIs(judged_ways(net, times, thin, ways), True)
        self.assertIs(lets_ways(net, times, thin, ways), True)
        self.assertTrue(shows_plainly(net, times, len(thin[1]), case))
        self.assertIs(shows(net, times, len(thin[1]), case), True)
        self.assertTrue(is_least_plainly(net, times, told))
        self.assertIs(is_least(net, times, told), True)

    def test_kite_by_hand(self):
        # Of ac 4 there is abc of 5, of ad 6 there is acd of 8 or abcd of 9; four places need three ties.
        for times, many in (
            ((1, 1), 5), ((124, 100), 5), ((5, 4), 4), ((149, 100), 4), ((3, 2), 3), ((10 ** 6, 1), 3),
        ):
            self.looks_right(KITE, times, many)
        thin, ways, case = least_thin(KITE, (3, 2))
        self.assertEqual(thin, (FOUR, (("a", "b", 2), ("b", "c", 3), ("c", "d", 4))))
        self.assertEqual(ways, (("a", "b", "c"), ("a", "b", "c", "d")))

    def test_fewer_ties_than_the_net_thinned_by_times(self):
        self.assertEqual(len(thinned_plainly(WHEEL, (20, 9))[1]), 6)
        self.looks_right(WHEEL, (20, 9), 4)
        self.assertEqual(least_thin(WHEEL, (20, 9))[0], (WHEEL[0], tuple(tie for tie in WHEEL[1] if tie[1] == "e")))
        # Just below it the whole ring is needed, and two spokes that face one another.
        self.looks_right(WHEEL, (199999, 90000), 6)
        self.looks_right(WHEEL, (1, 1), 8)

    def test_like_lengths_by_hand(self):
        # From 2 on each star is enough, and no three ties less than 2.
        self.looks_right(ALIKE, (1, 1), 6)
        self.looks_right(ALIKE, (199, 100), 6)
        self.looks_right(ALIKE, (2, 1), 3)
        self.looks_right(ring(FOUR, 7), (299, 100), 4)
        self.looks_right(ring(FOUR, 7), (3, 1), 3)

    def test_no_ties_and_no_places(self):
        for net in (EMPTY, BARE, (("a",), ())):
            for times in SOME_TIMES:
                self.assertEqual(least_thin(net, times)[:2], (net, ()))
                self.looks_right(net, times, 0)

    def test_in_pieces(self):
        self.looks_right(NET, (1, 1), 4)
        self.looks_right(NET, (10 ** 6, 1), 4)

    def test_small_nets(self):
        for net in [*small_nets(), *nets_of(FOUR, (0, 1, 3))]:
            for times in ((1, 1), (3, 2), (3, 1), (10 ** 6, 1)):
                self.looks_right(net, times)

    def test_ten_ties(self):
        for net in ten_ties():
            self.assertEqual(len(net[1]), 10)
            for times in ((1, 1), (2, 1), (10 ** 6, 1)):
                self.looks_right(net, times)

    def test_eleven_ties(self):
        for net in (
            full_net(12, 11), full_net(6, 11), full_net(24, 11, 10 ** 6), mixed_net(1, 24, 11, [1, 2]), *large_nets(),
        ):
            for times in ((1, 1), (10 ** 6, 1)):
                with self.assertRaises(TooMany) as caught:
                    least_thin(net, times)
                self.assertEqual(type(caught.exception).__mro__[1], ThinError)

    def test_asked_again(self):
        first = least_thin(KITE, (3, 2))
        least_thin(KITE, (1, 1))
        self.assertIs(is_least(KITE, (3, 2), first), True)
        self.assertIs(is_least(KITE, (3, 2), least_thin(KITE, (3, 2))), True)


if __name__ == "__main__":
    unittest.main()
