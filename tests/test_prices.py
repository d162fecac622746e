import unittest

from plainly import all_least, is_fair_by
from samples import (
    ALIKE, BARE, EMPTY, FOUR, KITE, NET, STRANGE, bent, is_plain, kept_as_it_was, large_nets, nets_of, put_in,
    small_nets, spoiled,
)
from thinnet.prices import is_fair, prices_from
from thinnet.ways import far

MOST = (0, 1, 3, 4, 5, 10 ** 6, 10 ** 15)


class Fair(unittest.TestCase):
    def tells(self, right, net, thing):
        told = kept_as_it_was(self, is_fair, net, thing)
        self.assertIs(told, right, repr((net, thing))[:300])

    def test_by_hand(self):
        # Ties: ab 2, ac 4, ad 6, bc 3, cd 4.
        self.tells(True, KITE, (0, 2, 4, 6))
        self.tells(True, KITE, (6, 4, 2, 0))
        self.tells(True, KITE, (7, 7, 7, 7))
        self.tells(False, KITE, (0, 3, 4, 6))
        self.tells(False, KITE, (3, 0, 2, 4))
        self.tells(False, KITE, (0, 2, 5, 6))
        self.tells(False, KITE, (0, 1, 3, 7))

    def test_each_tie_just_fair_and_just_not(self):
        for a, b, length in KITE[1]:
            alone = (FOUR, ((a, b, length),))
            for low, high in ((a, b), (b, a)):
                for base in (0, 1, 10 ** 38):
                    for more, right in ((0, True), (length, True), (length + 1, False)):
                        prices = {low: base, high: base + more}
                        self.tells(right, alone, tuple(prices.get(place, 5) for place in FOUR))

    def test_bounds_of_lengths(self):
        for length in (1, 10 ** 6):
            net = (("a", "b"), (("a", "b", length),))
            self.tells(True, net, (0, length))
            self.tells(False, net, (length + 1, 0))

    def test_places_that_no_tie_joins_differ_freely(self):
        self.tells(True, BARE, (0, 10 ** 39, 5, 0))
        self.tells(True, NET, (0, 4, 8, 11, 10 ** 39, 10 ** 39 + 1))
        self.tells(False, NET, (0, 4, 8, 11, 10 ** 39, 10 ** 39 + 2))

    def test_no_places(self):
        self.tells(True, EMPTY, ())
        for thing in ([], "", None, 0, (0,), ((),)):
            self.tells(False, EMPTY, thing)

    def test_as_many_as_places(self):
        self.tells(False, BARE, (0, 0, 0))
        self.tells(False, BARE, (0, 0, 0, 0, 0))
        self.tells(False, BARE, ())

    def test_none_below_0(self):
        self.tells(False, BARE, (0, 0, 0, -1))
        self.tells(False, BARE, (-1, -1, -1, -1))

    def test_wrong_kinds_at_every_place(self):
        for net, prices in ((KITE, (1, 1, 1, 1)), (BARE, (0, 5, 10 ** 6, 1)), (NET, (0, 4, 8, 11, 1, 0))):
            for thing in spoiled(prices) + bent(prices):
                self.tells(is_fair_by(net, thing), net, thing)
        for wrong in (True, False, None, "1", "", (1,), [1], -1):
            for index in range(4):
                self.tells(False, KITE, (1,) * index + (wrong,) + (1,) * (3 - index))

    def test_any_plain_thing(self):
        for thing in STRANGE:
            self.tells(thing == () and type(thing) is tuple, EMPTY, thing)
            self.tells(False, KITE, thing)
            for version in put_in((1, 1, 1, 1), thing):
                self.tells(is_fair_by(KITE, version), KITE, version)


class PricesFrom(unittest.TestCase):
    def looks_right(self, net, place, most):
        told = kept_as_it_was(self, prices_from, net, place, most)
        least = all_least(net)
        self.assertEqual(told, tuple(min(most, least.get((place, other), most)) for other in net[0]))
        self.assertTrue(type(told) is tuple and is_plain(told))
        self.assertIs(is_fair(net, told), True)

    def test_by_hand(self):
        self.assertEqual(prices_from(KITE, "a", 10 ** 15), (0, 2, 4, 6))
        self.assertEqual(prices_from(KITE, "d", 10 ** 15), (6, 7, 4, 0))
        self.assertEqual(prices_from(KITE, "a", 3), (0, 2, 3, 3))
        self.assertEqual(prices_from(NET, "c", 10 ** 15), (8, 4, 0, 3, 10 ** 15, 10 ** 15))
        self.assertEqual(prices_from(NET, "f", 1), (1, 1, 1, 1, 1, 0))

    def test_up_to_the_number(self):
        for most, right in ((5, 5), (6, 6), (7, 6)):
            self.assertEqual(prices_from(KITE, "a", most)[3], right)

    def test_up_to_nought(self):
        self.assertEqual(prices_from(KITE, "a", 0), (0, 0, 0, 0))
        self.assertEqual(prices_from(BARE, "b", 0), (0, 0, 0, 0))

    def test_no_ties(self):
        self.assertEqual(prices_from(BARE, "b", 9), (9, 0, 9, 9))
        self.assertEqual(prices_from((("a",), ()), "a", 10 ** 15), (0,))

    def test_small_nets(self):
        for net in [*small_nets(), *nets_of(FOUR, (0, 1, 5))]:
            for place in net[0]:
                for most in MOST:
                    self.looks_right(net, place, most)

    def test_large_nets(self):
        for net in large_nets():
            for place in net[0][::5]:
                for most in (*MOST, 23 * 10 ** 6):
                    self.looks_right(net, place, most)

    def test_they_show_that_no_way_is_shorter(self):
        for net in small_nets():
            for a in net[0]:
                for place, price in zip(net[0], prices_from(net, a, 6)):
                    least = far(net, a, place)
                    self.assertTrue(price == least if least is not None and least < 6 else price == 6)

    def test_asked_again(self):
        first = prices_from(KITE, "a", 5)
        self.assertEqual(prices_from(ALIKE, "a", 5), (0, 5, 5, 5))
        self.assertEqual(prices_from(KITE, "a", 5), first)


if __name__ == "__main__":
    unittest.main()
