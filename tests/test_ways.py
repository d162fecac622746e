import unittest
from itertools import permutations, product

from plainly import all_least, is_round
from samples import EMPTY, FOUR, NET, STRANGE, full_net, kept_as_it_was, nets_of, ring, spoiled
from thinnet.nets import is_net
from thinnet.ways import far, length_of, round_of, way_of

FIVE = ("a", "b", "c", "d", "e")


def fewest_in_a_round(net):
    """How many ties the least round has, by trying all rows of places."""
    for many in range(3, len(net[0]) + 1):
        if any(is_round(net, row) for row in permutations(net[0], many)):
            return many
    return None


class LengthOf(unittest.TestCase):
    def tells(self, right, net, thing):
        told = kept_as_it_was(self, length_of, net, thing)
        self.assertEqual(told, right, repr(thing)[:200])
        self.assertIs(type(told), type(right))

    def test_one_place(self):
        for place in NET[0]:
            self.tells(0, NET, (place,))

    def test_steps_are_summed_both_ways_about(self):
        self.tells(4, NET, ("a", "b"))
        self.tells(4, NET, ("b", "a"))
        self.tells(11, NET, ("a", "b", "c", "d"))
        self.tells(11, NET, ("d", "c", "b", "a"))
        self.tells(17, NET, ("a", "b", "c", "a"))

    def test_there_and_back(self):
        self.tells(8, NET, ("a", "b", "a"))
        self.tells(12, NET, ("a", "b", "a", "b"))
        self.tells(5 * 10 ** 4 - 1, NET, ("e", "f") * (25 * 10 ** 3))
        self.tells(99999 * 10 ** 6, (("a", "b"), (("a", "b", 10 ** 6),)), ("a", "b") * 50000)

    def test_no_ways(self):
        for thing in ((), ("a", "d"), ("a", "a"), ("a", "b", "b"), ("a", "e"), ("e", "f", "a"), ("d", "a", "b")):
            self.tells(None, NET, thing)

    def test_no_places_of_the_net(self):
        for thing in (("g",), ("a", "g"), ("g", "a"), ("a", "b", "g"), ("",), ("A",), ("a", "")):
            self.tells(None, NET, thing)
        self.tells(None, EMPTY, ("a",))
        self.tells(None, EMPTY, ())

    def test_wrong_kinds(self):
        for way in (("a",), ("a", "b", "c", "d")):
            for thing in spoiled(way):
                self.tells(None, NET, thing)
        for thing in ("a", "ab", ["a"], ["a", "b"], ("ab",), (("a", "b"),), ("a", "b", 4), (0, 1)):
            self.tells(None, NET, thing)

    def test_any_plain_thing(self):
        for net in (NET, EMPTY):
            for thing in STRANGE:
                self.tells(None, net, thing)


class LeastWays(unittest.TestCase):
    def looks_right(self, net):
        least = all_least(net)
        for a, b in product(net[0], repeat=2):
            right = least.get((a, b))
            told = far(net, a, b)
            self.assertEqual(told, right, (net, a, b))
            self.assertIs(type(told), type(right))
            way = way_of(net, a, b)
            if right is None:
                self.assertIsNone(way)
            else:
                self.assertIs(type(way), tuple)
                self.assertEqual((way[0], way[-1]), (a, b))
                self.assertEqual(length_of(net, way), right, (net, a, b, way))

    def test_the_lesser_way_has_more_ties(self):
        self.assertEqual(kept_as_it_was(self, far, NET, "a", "d"), 11)
        self.assertEqual(kept_as_it_was(self, way_of, NET, "a", "d"), ("a", "b", "c", "d"))
        self.assertEqual(way_of(NET, "d", "a"), ("d", "c", "b", "a"))
        self.looks_right(NET)

    def test_a_place_and_itself(self):
        for place in NET[0]:
            self.assertEqual(far(NET, place, place), 0)
            self.assertEqual(way_of(NET, place, place), (place,))
        self.assertEqual(far((("a",), ()), "a", "a"), 0)
        self.assertEqual(way_of((("a",), ()), "a", "a"), ("a",))

    def test_no_way_leads_there(self):
        for a, b in (("a", "e"), ("f", "d"), ("e", "a")):
            self.assertIsNone(far(NET, a, b))
            self.assertIsNone(way_of(NET, a, b))
        self.assertIsNone(far((("a", "b"), ()), "a", "b"))

    def test_all_nets_of_four_places(self):
        for net in nets_of(FOUR, (0, 1, 2, 5)):
            self.looks_right(net)

    def test_large_nets(self):
        self.looks_right(full_net(24, 60, 10 ** 6))
        self.looks_right(ring(full_net(24, 0)[0], 10 ** 6))
        long_and_short = full_net(12, 60)
        ties = tuple((a, b, 1 + 997 * index % 101) for index, (a, b, length) in enumerate(long_and_short[1]))
        self.looks_right((long_and_short[0], ties))

    def test_nothing_hangs_on_what_was_asked_before(self):
        lone = (NET[0], (("a", "d", 50),))
        self.assertEqual(far(NET, "a", "d"), 11)
        self.assertEqual(far(lone, "a", "d"), 50)
        self.assertEqual(way_of(lone, "a", "d"), ("a", "d"))
        self.assertEqual(length_of(lone, ("a", "b")), None)
        self.assertEqual(far(NET, "a", "d"), 11)


class Rounds(unittest.TestCase):
    def looks_right(self, net, right):
        self.assertTrue(is_net(net))
        told = kept_as_it_was(self, round_of, net)
        if right is None:
            self.assertIsNone(told, net)
        else:
            self.assertTrue(is_round(net, told), (net, told))
            self.assertEqual(len(told), right, (net, told))

    def test_without_a_round(self):
        path = (FOUR, (("a", "b", 1), ("b", "c", 1), ("c", "d", 1)))
        star = (FOUR, (("a", "b", 1), ("a", "c", 1), ("a", "d", 1)))
        for net in (EMPTY, (("a",), ()), (("a", "b"), (("a", "b", 1),)), path, star):
            self.looks_right(net, None)

    def test_one_round(self):
        for many in range(3, 25):
            self.looks_right(ring(full_net(many, 0)[0]), many)

    def test_places_not_met_in_their_order(self):
        self.looks_right(ring(("a", "d", "b", "e", "c")), 5)

    def test_fewest_ties_not_least_length(self):
        # The round of three is far longer than that of four.
        heavy = [("a", "b", 10 ** 6), ("a", "c", 10 ** 6), ("b", "c", 10 ** 6)]
        light = [("d", "e", 1), ("d", "g", 1), ("e", "f", 1), ("f", "g", 1)]
        self.looks_right((tuple("abcdefg"), tuple(heavy + light)), 3)

    def test_fewest_ties_though_each_has_a_lesser_way_about(self):
        # Between each two of a, b, c a tie of 10, and a way of three ties of 1.
        heavy = [("a", "b", 10), ("a", "c", 10), ("b", "c", 10)]
        light = [tuple(sorted(pair)) + (1,) for pair in ("ad", "de", "eb", "bf", "fg", "gc", "ch", "hi", "ia")]
        self.looks_right((tuple("abcdefghi"), tuple(sorted(heavy + light))), 3)

    def test_several_of_unlike_sizes_apart(self):
        small = ring(tuple("vwxyz"))
        for places in (tuple("abcdef"), tuple("abcd"), tuple("abcdefghijk")):
            large = ring(places)
            both = (large[0] + small[0], large[1] + small[1])
            self.looks_right(both, min(len(places), 5))

    def test_several_that_share_ties(self):
        self.looks_right(NET, 3)
        ladder = ("ab", "ad", "bc", "be", "cf", "de", "ef")
        self.looks_right((tuple("abcdef"), tuple((a, b, 1) for a, b in ladder)), 4)
        # Between b and e ways of two ties, and one of three by places ahead of all others.
        pairs = ("ab", "ac", "bd", "bf", "ce", "de", "ef")
        self.looks_right((tuple("abcdef"), tuple((a, b, 1) for a, b in pairs)), 4)

    def test_all_sets_of_ties_between_five_places(self):
        for net in nets_of(FIVE, (0, 3)):
            self.looks_right(net, fewest_in_a_round(net))

    def test_large_nets(self):
        self.looks_right(full_net(24, 60), 3)
        left, right = "abcdefgh", "ijklmno"
        self.looks_right((tuple(left + right), tuple((a, b, 1) for a in left for b in right)), 4)


if __name__ == "__main__":
    unittest.main()
