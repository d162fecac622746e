import unittest

from plainly import ahead, all_least, gap, in_order, judged_greedy, judged_ways, keeps, out_of, within
from samples import (
    ALIKE, BARE, EMPTY, FOUR, KITE, SMALL_STRANGE, SOME_TIMES, STRANGE, answer, bent, large_nets, put, put_in,
    small_nets, spoiled, thin_nets,
)
from thinnet.checking import lets_greedy, lets_ways
from thinnet.nets import only
from thinnet.prices import prices_from
from thinnet.thinning import greedy_paper, thinned, ways_paper
from thinnet.ways import way_of

TIMES = (3, 2)
# By 3/2 of the kite just ab 2, bc 3, cd 4 are kept. In order: ab 2, bc 3, ac 4, cd 4, ad 6.
THIN = (FOUR, (("a", "b", 2), ("b", "c", 3), ("c", "d", 4)))
IN_AB = ("in", (0, 4, 4, 4))
IN_BC = ("in", (0, 0, 5, 5))
OUT_AC = ("out", ("a", "b", "c"))
IN_CD = ("in", (0, 0, 0, 7))
OUT_AD = ("out", ("a", "b", "c", "d"))
PAPER = (IN_AB, IN_BC, OUT_AC, IN_CD, OUT_AD)
WAYS = (("a", "b", "c"), ("a", "b", "c", "d"))


class Answers(unittest.TestCase):
    def says(self, right, lets, *things):
        told = answer(lets, *things)
        self.assertEqual(told, right, repr(things)[:600])
        self.assertEqual(repr(told), repr(right))

    def greedy(self, right, paper, thin=THIN, net=KITE, times=TIMES):
        self.says(right, lets_greedy, net, times, thin, paper)
        self.assertEqual(judged_greedy(net, times, thin, paper), right)

    def ways(self, right, paper, thin=THIN, net=KITE, times=TIMES):
        self.says(right, lets_ways, net, times, thin, paper)
        self.assertEqual(judged_ways(net, times, thin, paper), right)


class GreedyByHand(Answers):
    def test_let_by(self):
        self.greedy(True, PAPER)

    def test_shape_of_the_paper(self):
        for paper in (
            None, True, "", "in", [], (), list(PAPER), PAPER[:4], PAPER + (OUT_AD,), (PAPER,), PAPER + (None,),
            put(PAPER, 0, list(IN_AB)), put(PAPER, 4, ("out",)), put(PAPER, 4, ()), put(PAPER, 4, OUT_AD + (1,)),
            put(PAPER, 4, None), put(PAPER, 4, "in"), put(PAPER, 4, "out"), put(PAPER, 2, ("Out", OUT_AC[1])),
            put(PAPER, 2, ("", OUT_AC[1])), put(PAPER, 2, ("near", OUT_AC[1])), put(PAPER, 2, (("out",), OUT_AC[1])),
            put(PAPER, 2, (["out"], OUT_AC[1])), put(PAPER, 2, (None, OUT_AC[1])), put(PAPER, 2, ("o", OUT_AC[1])),
            put(PAPER, 2, (OUT_AC[1], "out")), put(PAPER, 2, (True, OUT_AC[1])), put(PAPER, 2, ("in out", OUT_AC[1])),
        ):
            self.greedy(("shape", 0), paper)

    def test_shape_of_the_thin_net(self):
        places, ties = THIN
        for thin in (
            None, True, "", (), [], list(THIN), (places,), (places, ties, ()), (list(places), ties),
            (places, list(ties)), (places[:3], ties[:2]), (places + ("e",), ties), (places, ties[::-1]),
            (places, ties + ties[2:]),
            (places, ties[:2] + (["c", "d", 4],)), (places, ties[:2] + (("c", "d", 5),)), (places, (("b", "d", 1),)),
            (places, (("b", "a", 2),) + ties[1:]), (places, ties + (None,)), (places, ties[:2] + (("c", "d"),)),
        ):
            self.greedy(("shape", 0), PAPER, thin)

    def test_true_is_no_1(self):
        net = (("a", "b"), (("a", "b", 1),))
        self.greedy(True, (("in", (0, 2)),), net, net)
        self.greedy(("shape", 0), (("in", (0, 2)),), (("a", "b"), (("a", "b", True),)), net)
        self.greedy(("fair", 0), (("in", (True, 3)),), net, net)
        self.greedy(True, (("in", (1, 3)),), net, net)

    def test_word(self):
        self.greedy(("word", 0), put(PAPER, 0, ("out", ("a", "b"))))
        self.greedy(("word", 2), put(PAPER, 2, ("in", (0, 0, 9, 9))))
        self.greedy(("word", 4), put(PAPER, 4, ("in", ())))
        self.greedy(("word", 3), PAPER, (FOUR, THIN[1][:2]))
        self.greedy(("word", 2), PAPER, (FOUR, (("a", "b", 2), ("a", "c", 4), ("b", "c", 3), ("c", "d", 4))))
        self.greedy(("word", 0), PAPER, BARE)

    def test_way(self):
        for thing in (
            None, True, "abc", (), ["a", "b", "c"], ("a",), ("a", "b"), ("b", "c"), ("c", "b", "a"), ("a", "c"),
            ("a", "b", "c", "d", "c", "b"), ("a", "a", "b", "c"), ("a", "b", ("c",)), ("a", "b", "z", "c"), (0, 1, 2),
            (("a", "b"), ("b", "c")), ("a", "b", None), ("a", "b", True), "a", (None,), ("", "c"), ("a", ["b"], "c"),
        ):
            self.greedy(("way", 2), put(PAPER, 2, ("out", thing)))

    def test_way_by_ties_ahead_alone(self):
        # cd is of the thin net and as long as ac, but goes behind it in order.
        great = 10 ** 12
        prices = [("in", (0,) * many + (great,) * (4 - many)) for many in (1, 2, 3)]
        paper = (prices[0], prices[1], OUT_AC, prices[2], OUT_AD)
        self.greedy(True, paper, times=(10 ** 6, 1))
        self.greedy(True, put(paper, 2, ("out", ("a", "b", "a", "b", "c"))), times=(10 ** 6, 1))
        self.greedy(("way", 2), put(paper, 2, ("out", ("a", "b", "c", "d", "c"))), times=(10 ** 6, 1))
        # ac is left out, so ad has no way by it.
        self.greedy(("way", 4), put(PAPER, 4, ("out", ("a", "c", "d"))))
        self.greedy(("way", 4), put(PAPER, 4, ("out", ("a", "d"))))

    def test_far(self):
        self.greedy(("far", 2), put(PAPER, 2, ("out", ("a", "b", "a", "b", "c"))))
        self.greedy(("far", 4), PAPER, times=(149, 100))
        self.greedy(("far", 2), PAPER, times=(124, 100))
        self.greedy(("far", 4), PAPER, times=(5, 4))

    def test_fair(self):
        for thing in (
            None, True, 0, "", (), (0, 0, 0), (0, 0, 0, 7, 7), [0, 0, 0, 7], (0, 0, 0, "7"), (0, 0, 0, True),
            (0, 0, 0, None), (0, 0, 0, -7), (-7, -7, -7, 0), (0, 3, 0, 7), (0, 2, 6, 13), (0, 0, 0, (7,)),
            ((0, 0, 0, 7),),
        ):
            self.greedy(("fair", 3), put(PAPER, 3, ("in", thing)))

    def test_fair_by_ties_ahead_alone(self):
        # ab is just fair; bc and cd go behind ab and are not asked.
        self.greedy(True, put(PAPER, 1, ("in", (2, 0, 10 ** 39, 0))))
        self.greedy(("fair", 1), put(PAPER, 1, ("in", (3, 0, 10 ** 39, 0))))
        # ac, which is left out, is not asked either.
        self.greedy(True, put(PAPER, 3, ("in", (0, 2, 5, 12))))
        self.greedy(("fair", 3), put(PAPER, 3, ("in", (0, 2, 6, 13))))

    def test_near(self):
        # Beyond 3/2 of 2, 3, 4 are 4, 5, 7.
        for number, least, place in ((0, 4, "b"), (1, 5, "c"), (3, 7, "d")):
            at = FOUR.index(place)
            near = ("near", number)
            for price, right in ((least - 1, near), (least, True), (least + 1, True), (0, near)):
                self.greedy(right, put(PAPER, number, ("in", (0,) * at + (price,) * (4 - at))))
                self.greedy(right, put(PAPER, number, ("in", (price,) * at + (0,) * (4 - at))))

    def test_prices_of_another_hand(self):
        great = 10 ** 39
        self.greedy(True, (("in", (great, 0, 5, 7)), ("in", (9, 9, 0, 0)), OUT_AC, ("in", (1, 2, 3, great)), OUT_AD))

    def test_way_of_another_hand(self):
        net = (("a", "b", "c"), (("a", "b", 2), ("a", "c", 100), ("b", "c", 3)))
        thin = (net[0], (("a", "b", 2), ("b", "c", 3)))
        for many, right in ((1, True), (2, True), (24, True), (25, ("far", 2))):
            way = ("a", "b") * many + ("c",)
            self.greedy(right, (("in", (0, 3, 3)), ("in", (0, 0, 4)), ("out", way)), thin, net, (1, 1))

    def test_first_of_several(self):
        late = put(PAPER, 4, ("out", None))
        self.greedy(("way", 4), late)
        self.greedy(("near", 3), put(late, 3, ("in", (0, 0, 0, 0))))
        self.greedy(("fair", 3), put(late, 3, ("in", (0, 9, 0, 0))))
        self.greedy(("word", 3), put(late, 3, ("out", None)))
        self.greedy(("far", 2), put(put(late, 3, ("out", None)), 2, ("out", ("a", "b", "a", "b", "c"))))
        self.greedy(("shape", 0), put(put(PAPER, 0, ("out", None)), 4, ("out", None, None)))
        self.greedy(("shape", 0), put(put(PAPER, 0, ("out", None)), 4, ("away", None)))
        self.greedy(("shape", 0), put(PAPER, 0, ("out", None)), (FOUR, THIN[1][::-1]))
        self.greedy(("word", 0), (("out", 1), ("out", 1), ("in", 1), ("out", 1), ("in", 1)))
        # Of one tie: fair ahead of near, way ahead of far.
        self.greedy(("fair", 0), put(PAPER, 0, ("in", (0, 0, 0))))
        self.greedy(("way", 4), put(PAPER, 4, ("out", ("a", "b", "c", "b", "c"))))

    def test_nets_without_ties(self):
        for net in (EMPTY, BARE):
            self.greedy(True, (), net, net)
            for paper in ([], None, "", ((),), (("in", ()),)):
                self.greedy(("shape", 0), paper, net, net)
        self.greedy(("shape", 0), (), EMPTY, BARE)

    def test_one_tie_of_the_bounds(self):
        for length in (1, 10 ** 6):
            net = (("a", "b"), (("a", "b", length),))
            for times, least in (((1, 1), length + 1), ((10 ** 6, 1), length * 10 ** 6 + 1)):
                self.greedy(True, (("in", (0, least)),), net, net, times)
                self.greedy(("near", 0), (("in", (0, least - 1)),), net, net, times)
            self.greedy(("way", 0), (("out", ("a", "b")),), (("a", "b"), ()), net)


class GreedyFromAllSides(Answers):
    def test_told_papers_of_small_nets_bent_and_spoiled(self):
        words = {}
        for net in small_nets()[:14]:
            for times in ((1, 1), (3, 2), (10 ** 6, 1)):
                thin = thinned(net, times)
                told = greedy_paper(net, times)
                for paper in spoiled(told) + bent(told):
                    right = judged_greedy(net, times, thin, paper)
                    self.says(right, lets_greedy, net, times, thin, paper)
                    words[right if right is True else right[0]] = True
                for other in spoiled(thin) + bent(thin):
                    right = judged_greedy(net, times, other, told)
                    self.says(right, lets_greedy, net, times, other, told)
        self.assertEqual(set(words), {True, "shape", "word", "way", "far", "fair", "near"})

    def test_any_plain_thing(self):
        for thing in STRANGE:
            self.greedy(("shape", 0), thing)
            self.greedy(("shape", 0), PAPER, thing)
            self.greedy(("shape", 0), thing, thing)
            self.greedy(("shape", 0), (thing,) * 5)
            self.greedy(("fair", 0), (("in", thing),) + PAPER[1:])
            self.greedy(("way", 4), PAPER[:4] + (("out", thing),))

    def test_any_plain_thing_at_every_place(self):
        for thing in SMALL_STRANGE:
            for paper in put_in(PAPER, thing):
                self.greedy(judged_greedy(KITE, TIMES, THIN, paper), paper)
            for thin in put_in(THIN, thing):
                self.greedy(judged_greedy(KITE, TIMES, thin, PAPER), PAPER, thin)

    def test_no_other_thin_net_is_let_by(self):
        for net in small_nets():
            for times in ((1, 1), (3, 2), (3, 1)):
                right = thinned(net, times)
                for thin in thin_nets(net):
                    told = answer(lets_greedy, net, times, thin, best_greedy(net, thin))
                    self.assertEqual(told is True, thin == right, (net, times, thin))

    def test_large_nets(self):
        for net in large_nets():
            for times in ((1, 1), (3, 2), (10 ** 6, 1)):
                thin = thinned(net, times)
                self.says(True, lets_greedy, net, times, thin, best_greedy(net, thin))
                less = (net[0], thin[1][1:])
                self.assertIsNot(answer(lets_greedy, net, times, less, best_greedy(net, less)), True)

    def test_two_faults(self):
        told = greedy_paper(ALIKE, (2, 1))
        thin = thinned(ALIKE, (2, 1))
        wrong = [("out", None), ("in", None), ("in", (0, 0, 0, 0)), ("out", ("a", "b")), ("out",)]
        for first in range(6):
            for second in range(6):
                for one in wrong:
                    for other in wrong:
                        paper = put(put(told, first, one), second, other)
                        self.greedy(judged_greedy(ALIKE, (2, 1), thin, paper), paper, thin, ALIKE, (2, 1))

    def test_refused_or_let_by_nothing_is_kept(self):
        self.greedy(("shape", 0), None)
        self.greedy(True, PAPER)
        self.greedy(("word", 0), PAPER, BARE)
        self.greedy(True, PAPER)


def best_greedy(net, thin):
    """A paper for this thin net that is refused by no one where any is let by."""
    paper = []
    for a, b, length in in_order(net[1]):
        less = ahead(thin, (a, b, length))
        kept = (a, b, length) in thin[1]
        paper.append(("in", prices_from(less, a, 10 ** 15)) if kept else ("out", way_of(less, a, b)))
    return tuple(paper)


class WaysByHand(Answers):
    def test_let_by(self):
        self.ways(True, WAYS)
        self.ways(True, WAYS[:1], (FOUR, KITE[1][:1] + KITE[1][2:]))
        self.ways(True, (), KITE)

    def test_ways_of_another_hand(self):
        self.ways(True, (("a", "b", "c", "d", "c"), WAYS[1]), times=(13, 4))
        self.ways(("far", 0), (("a", "b", "c", "d", "c"), WAYS[1]), times=(12, 4))
        self.ways(True, (WAYS[0], ("a", "b", "a", "b", "a", "b", "c", "d")), times=(17, 6))

    def test_ways_by_ties_behind_are_ways_too(self):
        # For ac 4 there is adc of 10 by ties that go behind it in order.
        thin = (FOUR, (("a", "b", 2), ("a", "d", 6), ("c", "d", 4)))
        self.ways(True, (("b", "a", "d", "c"), ("a", "d", "c")), thin, times=(4, 1))
        self.ways(("far", 0), (("b", "a", "d", "c"), ("a", "d", "c")), thin, times=(399, 100))

    def test_shape(self):
        for paper in (None, True, "", "ab", [], (), list(WAYS), WAYS[:1], WAYS + WAYS[:1], (WAYS,)):
            self.ways(("shape", 0), paper)
        places, ties = THIN
        for thin in (
            None, True, (), [], list(THIN), (places,), (places, list(ties)), (list(places), ties), (places, ties[::-1]),
            (places[:3], ties[:2]), (places, ties[:2] + (("c", "d", 3),)), (places, ties[:2] + (["c", "d", 4],)),
        ):
            self.ways(("shape", 0), WAYS, thin)
        self.ways(("shape", 0), WAYS, KITE)
        self.ways(("shape", 0), WAYS, BARE)
        net = (("a", "b", "c"), (("a", "b", 1), ("a", "c", 2), ("b", "c", 1)))
        self.ways(True, (("a", "b", "c"),), (net[0], (("a", "b", 1), ("b", "c", 1))), net)
        self.ways(("shape", 0), (("a", "b", "c"),), (net[0], (("a", "b", True), ("b", "c", 1))), net)

    def test_way(self):
        for thing in (
            None, True, 0, "", "abc", (), ["a", "b", "c"], ("a",), ("a", "b"), ("c", "b", "a"), ("b", "c"), ("a", "c"),
            ("a", "d", "c"), ("a", "b", "z"), ("a", "b", "c", "d"), ("a", "b", "b", "c"), ("a", ("b",), "c"),
            ("a", True, "c"),
        ):
            self.ways(("way", 0), (thing, WAYS[1]))
            self.ways(("way", 1), (WAYS[0], thing if thing != ("a", "b", "c", "d") else WAYS[0]))

    def test_far(self):
        self.ways(("far", 0), WAYS, times=(124, 100))
        self.ways(("far", 1), WAYS, times=(5, 4))
        self.ways(("far", 1), WAYS, times=(149, 100))
        self.ways(("far", 1), WAYS, times=(999998, 666666))
        self.ways(True, WAYS, times=(999999, 666666))
        self.ways(("far", 0), (("a", "b", "c", "b", "c"), WAYS[1]))

    def test_first_of_several(self):
        self.ways(("far", 0), (("a", "b", "c", "b", "c"), None))
        self.ways(("way", 0), (None, ("a", "b", "c", "d", "c", "d")))
        self.ways(("way", 0), (("c", "b", "c", "b", "a"), None))
        self.ways(("shape", 0), (None, None), None)
        self.ways(("shape", 0), (None, None, None))

    def test_nets_without_ties(self):
        for net in (EMPTY, BARE):
            self.ways(True, (), net, net)
            for paper in ([], None, "", ((),), (("a",),)):
                self.ways(("shape", 0), paper, net, net)

    def test_lengths_of_the_bounds(self):
        net = (("a", "b", "c"), (("a", "b", 10 ** 6), ("a", "c", 1), ("b", "c", 10 ** 6)))
        thin = (net[0], net[1][:1] + net[1][2:])
        self.ways(("far", 0), (("a", "b", "c"),), thin, net, (10 ** 6, 1))
        self.ways(True, (("a", "c", "b"),), (net[0], net[1][1:]), net, (10 ** 6, 10 ** 6 - 1))
        self.ways(("far", 0), (("a", "c", "b"),), (net[0], net[1][1:]), net, (1, 1))


class WaysFromAllSides(Answers):
    def test_told_papers_of_small_nets_bent_and_spoiled(self):
        words = {}
        for net in small_nets():
            for times in ((1, 1), (3, 2), (10 ** 6, 1)):
                thin = thinned(net, times)
                told = ways_paper(net, times, thin)
                for paper in spoiled(told) + bent(told):
                    right = judged_ways(net, times, thin, paper)
                    self.says(right, lets_ways, net, times, thin, paper)
                    words[right if right is True else right[0]] = True
                for other in spoiled(thin) + bent(thin):
                    right = judged_ways(net, times, other, told)
                    self.says(right, lets_ways, net, times, other, told)
        self.assertEqual(set(words), {True, "shape", "way", "far"})

    def test_any_plain_thing(self):
        for thing in STRANGE:
            self.ways(("shape", 0), WAYS, thing)
            self.ways(("shape", 0), thing, thing)
            self.ways(("way", 0), (thing, WAYS[1]))
            self.ways(("way", 1), (WAYS[0], thing))
            self.ways(judged_ways(KITE, TIMES, THIN, thing), thing)

    def test_any_plain_thing_at_every_place(self):
        for thing in SMALL_STRANGE:
            for paper in put_in(WAYS, thing):
                self.ways(judged_ways(KITE, TIMES, THIN, paper), paper)
            for thin in put_in(THIN, thing):
                self.ways(judged_ways(KITE, TIMES, thin, WAYS), WAYS, thin)

    def test_a_paper_just_where_times_are_kept(self):
        for net in small_nets():
            least = all_least(net)
            for thin in thin_nets(net):
                ways = tuple(way_of(thin, a, b) for a, b, length in out_of(net, thin))
                by_thin = all_least(thin)
                for times in ((1, 1), (3, 2), (3, 1)):
                    told = answer(lets_ways, net, times, thin, ways)
                    self.assertEqual(told is True, keeps(net, times, thin), (net, times, thin))
                    if told is True:
                        self.assertTrue(all(within(by_thin[pair], times, least[pair]) for pair in least))

    def test_large_nets(self):
        for net in large_nets():
            for times in ((1, 1), (3, 2), (10 ** 6, 1)):
                thin = thinned(net, times)
                told = ways_paper(net, times, thin)
                self.says(True, lets_ways, net, times, thin, told)
                if told:
                    last = len(told) - 1
                    self.says(("way", last), lets_ways, net, times, thin, put(told, last, told[last][1:]))
                    round_about = told[last][:2] * (2 * 10 ** 4) + told[last]
                    right = judged_ways(net, times, thin, put(told, last, round_about))
                    self.says(right, lets_ways, net, times, thin, put(told, last, round_about))

    def test_greedy_papers_tell_the_same_gaps(self):
        for net in large_nets():
            for times in SOME_TIMES[:3]:
                thin = thinned(net, times)
                for (a, b, length), entry in zip(in_order(net[1]), greedy_paper(net, times)):
                    if entry[0] == "in":
                        self.assertFalse(within(gap(net, entry[1], a, b), times, length))


class BeyondTheBounds(Answers):
    def test_a_net_somewhat_beyond_is_not_refused_for_it(self):
        places = tuple("abcdefghijklmnopqrstuvwxyz")
        ties = tuple((a, b, 10 ** 6 + 1) for a in "abc" for b in places[3:])
        net = (places, ties)
        thin = thinned(net, (3, 1))
        self.says(True, lets_greedy, net, (3, 1), thin, greedy_paper(net, (3, 1)))
        self.says(True, lets_ways, net, (3, 1), thin, ways_paper(net, (3, 1), thin))
        self.says(True, lets_ways, net, (3, 1), only(net, ties), ())


if __name__ == "__main__":
    unittest.main()
