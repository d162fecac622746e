import unittest

from plainly import ahead, judged_tree, least_tree_plainly, out_of, pieces_of
from samples import (
    ALIKE, BARE, EMPTY, FOUR, KITE, NET, SMALL_STRANGE, STRANGE, answer, bent, is_plain, kept_as_it_was, large_nets,
    nets_of, put_in, ring, small_nets, spoiled, thin_nets,
)
from thinnet.nets import is_net, is_thin, only, total
from thinnet.thinning import thinned
from thinnet.trees import least_tree, lets_tree, tree_paper
from thinnet.ways import round_of, way_of

# The kite in order: ab 2, bc 3, ac 4, cd 4, ad 6. Its least tree is ab, bc, cd.
TREE = (FOUR, (("a", "b", 2), ("b", "c", 3), ("c", "d", 4)))
PAPER = (("a", "b", "c"), ("a", "b", "c", "d"))


class LeastTree(unittest.TestCase):
    def tells(self, right, net):
        told = kept_as_it_was(self, least_tree, net)
        self.assertEqual(told, right, net)
        self.assertTrue(is_plain(told) and is_net(told) and is_thin(net, told))

    def test_by_hand(self):
        self.tells(TREE, KITE)
        self.tells((NET[0], (("a", "b", 4), ("b", "c", 4), ("c", "d", 3), ("e", "f", 1))), NET)

    def test_like_lengths_by_their_order(self):
        self.tells((FOUR, (("a", "b", 5), ("a", "c", 5), ("a", "d", 5))), ALIKE)
        self.tells((FOUR, (("a", "b", 7), ("a", "d", 7), ("b", "c", 7))), ring(FOUR, 7))

    def test_however_far_the_way_that_is_there(self):
        # The way from a to c is of 2 * 10 ** 6 - 1, the tie ac of 10 ** 6.
        net = (("a", "b", "c"), (("a", "b", 10 ** 6 - 1), ("a", "c", 10 ** 6), ("b", "c", 10 ** 6)))
        self.tells((net[0], net[1][:2]), net)

    def test_no_ties_no_places_and_trees(self):
        for net in (EMPTY, BARE, (("a",), ()), TREE, (("a", "b"), (("a", "b", 10 ** 6),))):
            self.tells(net, net)

    def test_small_and_large_nets(self):
        for net in [*small_nets(), *nets_of(FOUR, (0, 1, 2)), *large_nets()]:
            self.tells(least_tree_plainly(net), net)

    def test_no_thin_net_that_leads_as_far_has_a_lesser_total(self):
        for net in small_nets():
            tree = least_tree(net)
            self.assertIsNone(round_of(tree))
            leading = [thin for thin in thin_nets(net) if pieces_of(thin) == pieces_of(net)]
            self.assertIn(tree, leading)
            self.assertEqual(total(tree), min(total(thin) for thin in leading))

    def test_its_ties_are_in_the_net_thinned_by_any_times(self):
        for net in [*small_nets(), *large_nets()]:
            for times in ((1, 1), (3, 2), (10 ** 6, 1)):
                self.assertLessEqual(set(least_tree(net)[1]), set(thinned(net, times)[1]))

    def test_asked_again(self):
        first = least_tree(KITE)
        least_tree(ALIKE)
        self.assertEqual(least_tree(KITE), first)


class TreePaper(unittest.TestCase):
    def looks_right(self, net):
        paper = kept_as_it_was(self, tree_paper, net)
        self.assertTrue(type(paper) is tuple and is_plain(paper))
        self.assertIs(judged_tree(net, least_tree(net), paper), True)
        self.assertIs(lets_tree(net, least_tree(net), paper), True)

    def test_by_hand(self):
        self.assertEqual([(way[0], way[-1]) for way in tree_paper(KITE)], [("a", "c"), ("a", "d")])
        for net in (EMPTY, BARE, TREE):
            self.assertEqual(tree_paper(net), ())

    def test_small_and_large_nets(self):
        for net in [*small_nets(), *nets_of(FOUR, (0, 1, 2)), *large_nets()]:
            self.looks_right(net)


class LetsTree(unittest.TestCase):
    def says(self, right, paper, thin=TREE, net=KITE):
        told = answer(lets_tree, net, thin, paper)
        self.assertEqual(repr(told), repr(right), repr((net, thin, paper))[:600])
        self.assertEqual(judged_tree(net, thin, paper), right)

    def test_let_by(self):
        self.says(True, PAPER)
        self.says(True, (("a", "b", "a", "b", "c"), ("a", "b", "c", "d", "c", "b", "c", "d")))

    def test_shape_of_the_paper(self):
        for paper in (None, True, 0, "", "ab", [], (), list(PAPER), PAPER[:1], PAPER + PAPER[:1], (PAPER,)):
            self.says(("shape", 0), paper)

    def test_shape_of_the_thin_net(self):
        places, ties = TREE
        for thin in (
            None, True, (), [], list(TREE), (places,), (list(places), ties), (places, list(ties)), (places, ties[::-1]),
            (places[:3], ties[:2]), (places + ("e",), ties), (places, ties[:2] + (("c", "d", 3),)),
            (places, ties[:2] + (["c", "d", 4],)), (places, ties + (None,)), (places, ties[:2] + ties[:1]),
        ):
            self.says(("shape", 0), PAPER, thin)
        self.says(("shape", 0), PAPER, BARE)
        self.says(("shape", 0), PAPER, KITE)
        one = (("a", "b"), (("a", "b", 1),))
        self.says(True, (), one, one)
        self.says(("shape", 0), (), (("a", "b"), (("a", "b", True),)), one)

    def test_round(self):
        self.says(("round", 0), (), KITE)
        three = (FOUR, (("a", "b", 2), ("a", "c", 4), ("b", "c", 3)))
        self.says(("round", 0), (("a", "b", "c"), ("a", "b", "c", "d")), three)
        self.says(("round", 0), (None, None), three)
        four = (FOUR, (("a", "b", 2), ("a", "d", 6), ("b", "c", 3), ("c", "d", 4)))
        self.says(("round", 0), (("a", "b", "c"),), four)
        for many in (3, 4, 5, 9, 24):
            net = ring(tuple("abcdefghijklmnopqrstuvwx"[:many]))
            self.says(("round", 0), (), net, net)
        # A round in the one piece, and a place too few in the other.
        net = (("a", "b", "c", "d", "e"), (("a", "b", 1), ("a", "c", 1), ("b", "c", 1), ("d", "e", 1)))
        self.says(("round", 0), (("d", "e"),), (net[0], net[1][:3]), net)

    def test_way(self):
        for thing in (
            None, True, 0, "", "abc", (), ["a", "b", "c"], ("a",), ("c", "b", "a"), ("a", "c"), ("a", "d", "c"),
            ("a", "b"), ("b", "c"), ("a", "b", "z", "c"), ("a", "a", "b", "c"), ("a", ("b",), "c"), ("a", True, "c"),
            ("a", "b", None),
        ):
            self.says(("way", 0), (thing, PAPER[1]))
            self.says(("way", 1), (PAPER[0], thing))

    def test_by_ties_ahead_alone(self):
        # cd is as long as ac, but goes behind it.
        self.says(("way", 0), (("a", "b", "c", "d", "c"), PAPER[1]))
        self.says(True, (PAPER[0], ("a", "b", "c", "d", "c", "d")))
        # A tree, but not the least one: its ties come behind those left out.
        other = (FOUR, (("a", "c", 4), ("a", "d", 6), ("b", "c", 3)))
        self.says(("way", 0), (("a", "c", "b"), ("c", "a", "d")), other)
        last = (FOUR, (("a", "b", 2), ("a", "d", 6), ("b", "c", 3)))
        self.says(("way", 1), (PAPER[0], ("c", "b", "a", "d")), last)
        # However long a way is, it is let by where it goes ahead.
        net = (("a", "b", "c"), (("a", "b", 9), ("a", "c", 10), ("b", "c", 9)))
        self.says(True, (("a", "b") * 40000 + ("c",),), only(net, [net[1][0], net[1][2]]), net)

    def test_too_few_ties(self):
        self.says(("way", 0), (("a", "b"), ("b", "c"), *PAPER[:1], ("c", "d"), *PAPER[1:]), BARE)
        few = (FOUR, (("a", "b", 2), ("c", "d", 4)))
        self.says(("way", 0), (("b", "c"), PAPER[0], PAPER[1]), few)

    def test_first_of_several(self):
        three = (FOUR, (("a", "b", 2), ("a", "c", 4), ("b", "c", 3)))
        self.says(("shape", 0), (), three)
        self.says(("shape", 0), (None,), (FOUR, three[1][::-1]))
        self.says(("round", 0), (None, None), three)
        self.says(("way", 0), (None, None))
        self.says(("way", 1), (PAPER[0], None))

    def test_nets_without_ties(self):
        for net in (EMPTY, BARE):
            self.says(True, (), net, net)
            for paper in ([], None, "", ((),), (("a",),)):
                self.says(("shape", 0), paper, net, net)

    def test_told_papers_bent_and_spoiled(self):
        words = {}
        for net in small_nets():
            tree = least_tree(net)
            told = tree_paper(net)
            for paper in spoiled(told) + bent(told):
                right = judged_tree(net, tree, paper)
                self.says(right, paper, tree, net)
                words[right if right is True else right[0]] = True
            for thin in spoiled(tree) + bent(tree):
                self.says(judged_tree(net, thin, told), told, thin, net)
        self.assertEqual(set(words), {True, "shape", "way"})

    def test_any_plain_thing(self):
        for thing in STRANGE:
            self.says(("shape", 0), PAPER, thing)
            self.says(("shape", 0), thing, thing)
            self.says(("way", 0), (thing, PAPER[1]))
            self.says(("way", 1), (PAPER[0], thing))
            self.says(judged_tree(KITE, TREE, thing), thing)
        for thing in SMALL_STRANGE:
            for paper in put_in(PAPER, thing):
                self.says(judged_tree(KITE, TREE, paper), paper)
            for thin in put_in(TREE, thing):
                self.says(judged_tree(KITE, thin, PAPER), PAPER, thin)

    def test_no_other_thin_net_is_let_by(self):
        for net in small_nets():
            for thin in thin_nets(net):
                paper = tuple(way_of(ahead(thin, tie), tie[0], tie[1]) for tie in out_of(net, thin))
                told = answer(lets_tree, net, thin, paper)
                self.assertEqual(told is True, thin == least_tree(net), (net, thin))
                self.assertEqual(told == ("round", 0), round_of(thin) is not None, (net, thin))

    def test_large_nets(self):
        for net in large_nets():
            told = tree_paper(net)
            self.says(True, told, least_tree(net), net)
            self.says(("round", 0) if len(net[1]) > len(least_tree(net)[1]) else True, (), net, net)
            if told:
                self.says(("way", len(told) - 1), told[:-1] + (told[-1][::-1],), least_tree(net), net)


if __name__ == "__main__":
    unittest.main()
