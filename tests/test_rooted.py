import unittest

from plainly import all_least, is_tree_plainly, least_tree_plainly, within
from samples import (
    ALIKE, BARE, EMPTY, FOUR, KITE, LETTERS, NET, SMALL_STRANGE, STRANGE, bent, is_plain, kept_as_it_was, large_nets,
    mixed_net, nets_of, put_in, ring, small_nets, spoiled, thin_nets,
)
from thinnet.nets import is_net, is_thin, total
from thinnet.rooted import is_tree_from, light_tree, tree_from
from thinnet.ways import round_of

LIGHT_TIMES = [(10 ** 6, 10 ** 6 - 1), (101, 100), (5, 4), (3, 2), (2, 1), (3, 1), (10, 1), (10 ** 6, 1)]


def wheel(many, spoke, rim):
    """From a nearest ways go by the spokes; the least tree is one spoke and the rim but one tie, where rim is less."""
    outer = LETTERS[1:many + 1]
    spokes = [("a", place, spoke) for place in outer]
    return (tuple("a" + outer), tuple(sorted(spokes + list(ring(tuple(outer), rim)[1]))))


def comb(many, tooth, back):
    """Teeth from a to each place along a back of many ties, each tooth somewhat longer than the one ahead of it."""
    row = LETTERS[1:many + 1]
    teeth = [("a", place, tooth + 3 * index) for index, place in enumerate(row)]
    return (tuple("a" + row), tuple(sorted(teeth + [(one, other, back) for one, other in zip(row, row[1:])])))


def broom(many, stick, bristle, straight):
    """Bristles at the end of a stick of two ties, abc, each with a tie straight to a.

    Where c is just within times and the bristles are not, one straight tie is enough for all: it must not be
    laid for each of them."""
    tips = LETTERS[3:many + 3]
    ties = [("a", "b", stick), ("b", "c", stick)]
    ties += [("c", tip, bristle) for tip in tips] + [("a", tip, straight) for tip in tips]
    return (tuple("abc" + tips), tuple(sorted(ties)))


HARD = [
    broom(20, 99, 5, 100), broom(20, 70, 10, 100), broom(21, 10 ** 6 - 1, 10, 10 ** 6), broom(12, 60, 6, 100),
    wheel(23, 10, 1), wheel(23, 2, 1), wheel(23, 10 ** 6, 10 ** 5), wheel(12, 6, 5), wheel(3, 10 ** 6, 1),
    comb(23, 10, 2), comb(23, 1, 1), comb(23, 30, 7), comb(15, 100, 60), comb(10, 10 ** 6 - 30, 10 ** 5),
]


def reached_from(net, place):
    least = all_least(net)
    return [other for other in net[0] if (place, other) in least]


class IsTreeFrom(unittest.TestCase):
    def tells(self, right, net, place, thing):
        told = kept_as_it_was(self, is_tree_from, net, place, thing)
        self.assertIs(told, right, repr((net, place, thing))[:300])

    def test_by_hand(self):
        for ends in ("ab bc cd", "ab ac ad", "ab bc ad", "ab ac cd", "ac bc ad", "ac bc cd", "ad cd bc", "ad cd ab"):
            tree = (FOUR, tuple(tie for tie in KITE[1] if tie[0] + tie[1] in ends.split()))
            for place in FOUR:
                self.tells(True, KITE, place, tree)
        for ends in ("", "ab", "ab bc", "ab cd", "ab bc ac", "ac cd ad", "ab bc cd ad", "ab bc cd ac"):
            thin = (FOUR, tuple(tie for tie in KITE[1] if tie[0] + tie[1] in ends.split()))
            for place in FOUR:
                self.tells(False, KITE, place, thin)

    def test_just_the_piece_that_the_place_is_in(self):
        main = (("a", "b", 4), ("b", "c", 4), ("c", "d", 3))
        for place in "abcd":
            self.tells(True, NET, place, (NET[0], main))
            self.tells(False, NET, place, (NET[0], main + (("e", "f", 1),)))
            self.tells(False, NET, place, (NET[0], (("e", "f", 1),)))
            self.tells(False, NET, place, (NET[0], main[:2] + (("e", "f", 1),)))
        for place in "ef":
            self.tells(True, NET, place, (NET[0], (("e", "f", 1),)))
            self.tells(False, NET, place, (NET[0], main))
            self.tells(False, NET, place, (NET[0], (("a", "b", 4),)))
            self.tells(False, NET, place, (NET[0], ()))

    def test_a_place_that_reaches_itself_alone(self):
        for place in FOUR:
            self.tells(True, BARE, place, BARE)
        self.tells(True, (("a",), ()), "a", (("a",), ()))
        net = (("a", "b", "c"), (("a", "b", 1),))
        self.tells(True, net, "c", (net[0], ()))
        self.tells(False, net, "c", net)
        self.tells(False, net, "a", (net[0], ()))

    def test_no_thin_net(self):
        tree = (FOUR, (("a", "b", 2), ("b", "c", 3), ("c", "d", 4)))
        self.tells(True, KITE, "a", tree)
        for thing in (
            list(tree), (list(FOUR), tree[1]), (FOUR, list(tree[1])), (FOUR, tree[1][::-1]), (FOUR[:3], tree[1][:2]),
            (FOUR, tree[1][:2] + (["c", "d", 4],)), (FOUR, tree[1][:2] + (("c", "d", 5),)), (FOUR + ("e",), tree[1]),
            (FOUR, tree[1][:2] + (("b", "d", 1),)), (FOUR, tree[1][:2] + tree[1][1:2]), EMPTY, tree + ((),),
        ):
            self.tells(False, KITE, "a", thing)
        one = (("a", "b"), (("a", "b", 1),))
        self.tells(True, one, "a", one)
        self.tells(False, one, "a", (("a", "b"), (("a", "b", True),)))

    def test_all_thin_nets_of_small_nets(self):
        for net in small_nets():
            for thin in thin_nets(net):
                for place in net[0]:
                    self.tells(is_tree_plainly(net, place, thin), net, place, thin)

    def test_wrong_kinds_at_every_place(self):
        tree = (FOUR, (("a", "b", 2), ("b", "c", 3), ("c", "d", 4)))
        for thing in spoiled(tree) + bent(tree):
            self.tells(is_tree_plainly(KITE, "a", thing), KITE, "a", thing)
        for strange in SMALL_STRANGE:
            for thing in put_in(tree, strange):
                self.tells(is_tree_plainly(KITE, "c", thing), KITE, "c", thing)

    def test_any_plain_thing(self):
        for thing in STRANGE:
            self.tells(False, KITE, "a", thing)
            self.tells(False, BARE, "a", thing)


class Trees(unittest.TestCase):
    def is_a_tree(self, net, place, told):
        self.assertTrue(is_plain(told) and is_net(told) and is_thin(net, told), (net, place))
        self.assertIs(is_tree_from(net, place, told), True)
        reached = reached_from(net, place)
        self.assertEqual(reached_from(told, place), reached)
        self.assertEqual(len(told[1]), len(reached) - 1)
        self.assertIsNone(round_of(told))


class TreeFrom(Trees):
    def looks_right(self, net):
        least = all_least(net)
        for place in net[0]:
            told = kept_as_it_was(self, tree_from, net, place)
            self.is_a_tree(net, place, told)
            by_told = all_least(told)
            for other in reached_from(net, place):
                self.assertEqual(by_told[(place, other)], least[(place, other)], (net, place, other))

    def test_by_hand(self):
        # From a the nearest are ab 2, ac 4 and ad 6; from d, cd 4, ad 6 and dcb 7.
        self.assertEqual(tree_from(KITE, "a"), (FOUR, (("a", "b", 2), ("a", "c", 4), ("a", "d", 6))))
        self.assertEqual(tree_from(KITE, "d"), (FOUR, (("a", "d", 6), ("b", "c", 3), ("c", "d", 4))))
        self.assertEqual(tree_from(NET, "a"), (NET[0], (("a", "b", 4), ("b", "c", 4), ("c", "d", 3))))
        self.assertEqual(tree_from(NET, "f"), (NET[0], (("e", "f", 1),)))
        self.assertEqual(tree_from(BARE, "b"), BARE)
        self.assertEqual(tree_from((("a",), ()), "a"), (("a",), ()))
        self.assertEqual(tree_from(ALIKE, "c"), (FOUR, (("a", "c", 5), ("b", "c", 5), ("c", "d", 5))))

    def test_small_nets(self):
        for net in [*small_nets(), *nets_of(FOUR, (0, 1, 2))]:
            self.looks_right(net)

    def test_large_and_hard_nets(self):
        for net in large_nets() + HARD:
            self.looks_right(net)

    def test_asked_again(self):
        first = tree_from(KITE, "a")
        tree_from(KITE, "d")
        self.assertEqual(tree_from(KITE, "a"), first)


class LightTree(Trees):
    def looks_right(self, net, place, times):
        told = kept_as_it_was(self, light_tree, net, place, times)
        self.is_a_tree(net, place, told)
        least = all_least(net)
        by_told = all_least(told)
        reached = reached_from(net, place)
        for other in reached:
            self.assertTrue(within(by_told[(place, other)], times, least[(place, other)]), (net, place, times, other))
        there = sum(length for a, b, length in least_tree_plainly(net)[1] if a in reached)
        self.assertLessEqual(total(told) * (times[0] - times[1]), (times[0] + times[1]) * there, (net, place, times))

    def test_by_hand(self):
        # Times so wide that the least tree itself will do: none lighter is, and more than it is too much.
        self.assertEqual(light_tree(KITE, "a", (10 ** 6, 1)), (FOUR, (("a", "b", 2), ("b", "c", 3), ("c", "d", 4))))
        # Times so strict that each place must be as near as by the net.
        self.assertEqual(light_tree(KITE, "a", (10 ** 6, 10 ** 6 - 1)), tree_from(KITE, "a"))
        self.assertEqual(light_tree(KITE, "d", (10 ** 6, 10 ** 6 - 1)), tree_from(KITE, "d"))
        self.assertEqual(light_tree(BARE, "a", (2, 1)), BARE)
        self.assertEqual(light_tree((("a",), ()), "a", (2, 1)), (("a",), ()))
        self.assertEqual(light_tree(NET, "e", (2, 1)), (NET[0], (("e", "f", 1),)))

    def test_just_within_and_just_beyond(self):
        # Round the least tree c is at 5 where 4 is nearest, d at 9 where 6 is.
        row = (FOUR, (("a", "b", 2), ("b", "c", 3), ("c", "d", 4)))
        self.looks_right(KITE, "a", (3, 2))
        self.assertEqual(light_tree(KITE, "a", (3, 2)), row)
        self.assertNotEqual(light_tree(KITE, "a", (149, 100)), row)
        self.looks_right(KITE, "a", (149, 100))

    def test_neither_the_least_tree_nor_that_of_nearest_ways_will_do(self):
        net = wheel(23, 10, 1)
        nearest = tree_from(net, "a")
        least = least_tree_plainly(net)
        told = light_tree(net, "a", (2, 1))
        self.looks_right(net, "a", (2, 1))
        self.assertGreater(total(nearest), 3 * total(least))
        # By the least tree w is at 10 by ab, and 21 along the rim.
        self.assertEqual(all_least(least)[("a", "w")], 31)
        self.assertTrue(total(least) < total(told) < total(nearest))

    def test_one_nearest_way_for_many_places(self):
        # By 2/1 c of 198 is within times of 105, each bristle of 203 beyond times of 100.
        net = broom(20, 99, 5, 100)
        self.looks_right(net, "a", (2, 1))
        self.assertEqual(total(least_tree_plainly(net)), 298)
        self.assertLessEqual(total(light_tree(net, "a", (2, 1))), 3 * 298)

    def test_hard_nets(self):
        for net in HARD:
            for times in LIGHT_TIMES:
                for place in net[0][:4] + net[0][-1:]:
                    self.looks_right(net, place, times)

    def test_small_nets(self):
        for net in small_nets():
            for times in LIGHT_TIMES:
                for place in net[0]:
                    self.looks_right(net, place, times)
        for net in nets_of(FOUR, (0, 1, 3)):
            for times in ((5, 4), (2, 1)):
                self.looks_right(net, "a", times)

    def test_mixed_nets(self):
        for start in range(150):
            net = mixed_net(start, 8 + start % 17, 20 + start % 9, [range(1, 9), range(90, 111), (1, 50)][start % 3])
            self.looks_right(net, net[0][start % 3], LIGHT_TIMES[start % len(LIGHT_TIMES)])

    def test_large_nets(self):
        for net in large_nets():
            for times in LIGHT_TIMES:
                for place in net[0][::9]:
                    self.looks_right(net, place, times)

    def test_asked_again(self):
        first = light_tree(KITE, "a", (10 ** 6, 1))
        light_tree(KITE, "a", (101, 100))
        self.assertEqual(light_tree(KITE, "a", (10 ** 6, 1)), first)


if __name__ == "__main__":
    unittest.main()
