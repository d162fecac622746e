import unittest

from plainly import all_least, in_order, judged_pairs, keeps_for
from samples import (
    ALIKE, BARE, EMPTY, FOUR, KITE, NET, SMALL_STRANGE, STRANGE, answer, bent, large_nets, put, put_in, small_nets,
    some_pairs, spoiled, thin_nets,
)
from thinnet.pairchecking import lets_pairs
from thinnet.pairs import pairs_paper, thinned_for_pairs
from thinnet.prices import prices_from
from thinnet.ways import way_of

TIMES = (3, 2)
PAIRS = (("a", "d"), ("b", "c"))
# By 3/2 for these pairs ab 2, bc 3, cd 4 of the kite stay; ac 4 and ad 6 are gone.
THIN = (FOUR, (("a", "b", 2), ("b", "c", 3), ("c", "d", 4)))
NEAR_AD = ("near", ("a", "b", "c", "d"), (0, 2, 4, 6))
NEAR_BC = ("near", ("b", "c"), (2, 0, 3, 7))
NEED_AB = (0, ("a", "d"), (0, 10, 10, 10))
NEED_BC = (1, ("b", "c"), (0, 0, 5, 5))
NEED_CD = (0, ("a", "d"), (0, 0, 0, 10))
SHOWN = (NEAR_AD, NEAR_BC)
NEEDED = (NEED_AB, NEED_BC, NEED_CD)
PAPER = (SHOWN, NEEDED)

# Of the net with e and f apart: a and e are apart, e and f near.
NET_PAIRS = (("a", "e"), ("e", "f"))
NET_THIN = (NET[0], (("e", "f", 1),))
APART = ("apart", ("a", "b", "c", "d"))
NET_PAPER = ((APART, ("near", ("e", "f"), (0, 0, 0, 0, 0, 1))), ((1, ("e", "f"), (0, 0, 0, 0, 0, 2)),))


def with_shown(number, thing):
    return (put(SHOWN, number, thing), NEEDED)


def with_needed(number, thing):
    return (SHOWN, put(NEEDED, number, thing))


class Answers(unittest.TestCase):
    def says(self, right, paper, thin=THIN, net=KITE, times=TIMES, pairs=PAIRS):
        told = answer(lets_pairs, net, times, pairs, thin, paper)
        self.assertEqual(repr(told), repr(right), repr((net, times, pairs, thin, paper))[:600])
        self.assertEqual(judged_pairs(net, times, pairs, thin, paper), right)

    def net_says(self, right, paper, thin=NET_THIN):
        self.says(right, paper, thin, NET, (1, 1), NET_PAIRS)


class ByHand(Answers):
    def test_let_by(self):
        self.says(True, PAPER)
        self.net_says(True, NET_PAPER)

    def test_shape_of_the_paper(self):
        for paper in (
            None, True, 0, "", "ab", [], (), list(PAPER), (SHOWN,), (SHOWN, NEEDED, ()), (NEEDED, SHOWN), (PAPER,),
            (list(SHOWN), NEEDED), (SHOWN, list(NEEDED)), (SHOWN[:1], NEEDED), (SHOWN + SHOWN[:1], NEEDED),
            ((), NEEDED),
            (SHOWN, NEEDED[:2]), (SHOWN, NEEDED + NEEDED[:1]), (SHOWN, ()), (None, NEEDED), (SHOWN, None),
            ("ab", "abc"),
            ("ab", NEEDED), (SHOWN, "abc"), (2, 3), SHOWN, NEEDED, [SHOWN, NEEDED],
        ):
            self.says(("shape", 0), paper)

    def test_shape_of_the_thin_net(self):
        places, ties = THIN
        for thin in (
            None, True, "", (), [], list(THIN), (places,), (places, ties, ()), (list(places), ties),
            (places, list(ties)),
            (places[:3], ties[:2]), (places + ("e",), ties), (places, ties[::-1]), (places, ties[:2] + ties[1:2]),
            (places, ties[:2] + (["c", "d", 4],)), (places, ties[:2] + (("c", "d", 5),)), (places, ties[:2] + (None,)),
            (places, ties[:2] + (("b", "d", 1),)), (places, ties[:2] + (("c", "d"),)), BARE, KITE, (places, ties[:2]),
        ):
            self.says(("shape", 0), PAPER, thin)
        self.net_says(("shape", 0), NET_PAPER, (NET[0], (("e", "f", True),)))

    def test_pair_is_neither_near_nor_apart(self):
        for thing in (
            None, True, 0, "", "near", "apart", (), [], ("near",), ("near", NEAR_AD[1]), NEAR_AD + (1,), list(NEAR_AD),
            ("Near",) + NEAR_AD[1:], ("",) + NEAR_AD[1:], (None,) + NEAR_AD[1:], (("near",),) + NEAR_AD[1:],
            (["near"],) + NEAR_AD[1:], ("apart",) + NEAR_AD[1:], ("apart",), ("apart", ("a",)), ("apart", FOUR),
            ("in", NEAR_AD[2]), ("out", NEAR_AD[1]), NEAR_AD[1:] + ("near",), (NEAR_AD,), NEAR_BC,
        ):
            self.says(("pair", 0), with_shown(0, thing))

    def test_near_has_no_way_of_the_thin_net(self):
        for way in (
            None, True, "", "abcd", (), ("a",), ("a", "d"), ("a", "c", "d"), ("a", "b", "c"), ("d", "c", "b", "a"),
            ["a", "b", "c", "d"], ("a", "b", "b", "c", "d"), ("a", "b", "z", "d"), ("a", ("b",), "c", "d"),
            ("b", "c", "d"),
            ("a", "b", "c", True), (0, 1, 2, 3), ("a", "b", "c", "d", "c"), ("a", "b", "c", "d", "z"), ("", "d"),
        ):
            self.says(("pair", 0), with_shown(0, ("near", way, NEAR_AD[2])))

    def test_near_has_no_prices_that_are_fair_by_the_net(self):
        for prices in (
            None, True, "", (), [0, 2, 4, 6], (0, 2, 4), (0, 2, 4, 6, 8), (0, 2, 4, "6"), (0, 2, 4, None),
            (0, 2, 4, [6]),
            (False, 2, 4, 6), (0, 2, 5, 6), (0, 3, 4, 6), (0, 2, 4, 7), (0, 0, 2, 7), (-1, 1, 3, 5), (0, 2, 5, 9),
        ):
            self.says(("pair", 0), with_shown(0, ("near", NEAR_AD[1], prices)))
        # Fair by the thin net is not enough: ad and ac are asked, too.
        self.says(("pair", 0), with_shown(0, ("near", NEAR_AD[1], (0, 2, 5, 9))), times=(1, 1))

    def test_near_just_within_and_just_beyond(self):
        # The way is of 9; 3/2 of 6 is 9, of 5 it is 7.
        self.says(True, with_shown(0, ("near", NEAR_AD[1], (0, 2, 4, 6))))
        self.says(("pair", 0), with_shown(0, ("near", NEAR_AD[1], (0, 2, 4, 5))))
        self.says(("pair", 0), with_shown(0, ("near", NEAR_AD[1], (0, 0, 0, 0))))
        self.says(("pair", 0), PAPER, times=(149, 100))
        # Somewhat wider times: there and back over ab is 13 in all, and 13/6 of 6.
        wide = ((("near", ("a", "b", "a", "b", "c", "d"), NEAR_AD[2]), NEAR_BC), tuple(
            (0, ("a", "d"), tuple(14 * (place > last) for place in FOUR)) for last in "abc"))
        self.says(True, wide, times=(13, 6))
        self.says(("pair", 0), wide, times=(12, 6))

    def test_near_of_another_hand(self):
        self.says(True, with_shown(0, ("near", NEAR_AD[1], (6, 4, 2, 0))))
        self.says(True, with_shown(0, ("near", NEAR_AD[1], (10 ** 39, 10 ** 39 + 2, 10 ** 39 + 4, 10 ** 39 + 6))))
        self.says(True, with_shown(1, ("near", ("b", "c"), (4, 2, 5, 4))))
        # 3/2 of what the prices differ by, 2, is 3.
        self.says(True, with_shown(1, ("near", ("b", "c"), (0, 0, 2, 2))))
        self.says(("pair", 1), with_shown(1, ("near", ("b", "c"), (0, 0, 1, 2))))
        self.says(("pair", 1), with_shown(1, ("near", ("b", "c", "b", "c"), NEAR_BC[2])))

    def test_apart(self):
        self.net_says(True, ((("apart", ("a", "b", "c", "d")), NET_PAPER[0][1]), NET_PAPER[1]))
        for side in (
            None, True, "", "abcd", (), ["a", "b", "c", "d"], ("a",), ("a", "b"), ("a", "b", "c"), ("e", "f"),
            ("b", "c", "d"),
            ("a", "b", "c", "d", "e"), ("a", "b", "c", "d", "f"), ("a", "b", "c", "d", "e", "f"), ("d", "c", "b", "a"),
            ("a", "b", "b", "c", "d"), ("a", "b", "c", "d", "d"), ("a", "b", "c", "d", "z"), ("a", "b", "d", "c"),
            ("a", "b", "c", ("d",)), ("a", "b", "c", "d", None), ("a", "b", "c", "d", 1), (0, 1, 2, 3),
            (("a", "b", "c", "d"),),
            ("a", "b", "c", ["d"]), ("", "a", "b", "c", "d"),
        ):
            self.net_says(("pair", 0), ((("apart", side), NET_PAPER[0][1]), NET_PAPER[1]))
        for thing in (
            APART + ((),), APART[:1], list(APART), ("Apart",) + APART[1:], ("near",) + APART[1:], APART[::-1],
        ):
            self.net_says(("pair", 0), ((thing, NET_PAPER[0][1]), NET_PAPER[1]))

    def test_apart_with_pieces_of_another_hand(self):
        net = (("a", "b", "c", "d", "e"), (("a", "b", 1), ("d", "e", 1)))
        thin = (net[0], ())
        for side, right in (
            (("a", "b"), True), (("a", "b", "c"), True), (("a", "b", "d", "e"), ("pair", 0)),
            (("a", "b", "c", "d"), ("pair", 0)),
            (("c",), ("pair", 0)), (("a",), ("pair", 0)), (("a", "c"), ("pair", 0)),
            (("a", "b", "c", "e"), ("pair", 0)),
        ):
            self.says(right, ((("apart", side),), ()), thin, net, (1, 1), (("a", "d"),))
        self.says(True, ((("apart", ("a", "b", "d", "e")),), ()), thin, net, (1, 1), (("a", "c"),))
        # The ties of the net are asked, not those of the thin net.
        self.says(("pair", 0), ((("apart", ("a",)),), ()), thin, net, (1, 1), (("a", "b"),))

    def test_apart_goes_by_a_side_with_the_first_place(self):
        # Here the other piece would be shown: that side has b, not a.
        self.net_says(("pair", 0), ((("apart", ("e", "f")), NET_PAPER[0][1]), NET_PAPER[1]))

    def test_tie_has_no_such_thing(self):
        for thing in (
            None, True, 0, "", (), [], (0,), NEED_CD[:2], NEED_CD + (0,), list(NEED_CD), NEED_CD[::-1],
            ("near",) + NEED_CD[1:],
            NEED_AB, NEED_BC, (NEED_CD,), "abc",
        ):
            self.says(("tie", 2), with_needed(2, thing))

    def test_number_of_a_pair(self):
        for number in (False, True, None, "0", "", (0,), [0], -1, -2, 2, 3, 10 ** 39, -(10 ** 39), ("a", "d")):
            self.says(("tie", 2), with_needed(2, (number,) + NEED_CD[1:]))
        # True is no 1, though both would lead to the second pair.
        self.says(("tie", 1), with_needed(1, (True,) + NEED_BC[1:]))
        # The number of another pair: its way leads elsewhere.
        self.says(("tie", 1), with_needed(1, (0,) + NEED_BC[1:]))

    def test_tie_has_no_way_of_the_net(self):
        for way in (
            None, True, "", "ad", (), ("a",), ("d", "a"), ["a", "d"], ("a", "c"), ("b", "c"), ("a", "b", "d"),
            ("a", "z", "d"),
            ("a", "a", "d"), ("a", ("d",)), (0, 3), ("a", "d", "c"), ("c", "d"), ("a", None, "d"),
        ):
            self.says(("tie", 2), with_needed(2, (0, way, NEED_CD[2])))

    def test_tie_has_no_prices_that_are_fair_without_it(self):
        for prices in (
            None, True, "", (), [0, 0, 0, 10], (0, 0, 0), (0, 0, 0, 10, 10), (0, 0, 0, "10"), (0, 0, 0, None),
            (False, 0, 0, 10),
            (0, 0, 0, [10]), (-10, -10, -10, 0), (0, 3, 3, 14), (0, 0, 4, 14), (0, 2, 6, 16), (0, 10, 10, 10),
        ):
            self.says(("tie", 2), with_needed(2, NEED_CD[:2] + (prices,)))
        # By ab 2 and bc 3 these are just fair, and ac, ad, cd are not asked.
        self.says(True, with_needed(2, NEED_CD[:2] + ((0, 2, 5, 10 ** 39),)))

    def test_tie_just_within_and_just_beyond(self):
        # Beyond 3/2 of ad 6 is 10, of acd 8 it is 13, of bc 3 it is 5.
        for number, thing, least in ((0, NEED_AB, 10), (2, NEED_CD, 10), (1, NEED_BC, 5)):
            for gap, right in ((least - 1, ("tie", number)), (least, True), (least + 1, True), (0, ("tie", number))):
                prices = tuple(min(price, 1) * gap for price in thing[2])
                self.says(right, with_needed(number, thing[:2] + (prices,)))
                turned = tuple(gap - price for price in prices)
                self.says(right, with_needed(number, thing[:2] + (turned,)))
        for gap, right in ((12, ("tie", 2)), (13, True)):
            self.says(right, with_needed(2, (0, ("a", "c", "d"), (0, 0, 0, gap))))

    def test_ties_of_another_hand(self):
        self.says(True, with_needed(1, (0, ("a", "d"), (0, 0, 10, 10))))
        self.says(True, with_needed(1, (0, ("a", "b", "c", "d"), (0, 2, 16, 20))))
        self.says(True, with_needed(1, (1, ("b", "a", "c"), (2, 0, 10, 10))))
        self.says(("tie", 1), with_needed(1, (1, ("b", "a", "c"), (2, 0, 9, 9))))
        self.says(True, with_needed(0, (0, ("a", "d", "a", "d"), (0, 28, 28, 28))))

    def test_other_thin_nets_than_the_one_told(self):
        pairs = (("a", "c"),)
        shown = (("near", ("a", "c"), (0, 2, 4, 4)),)
        thin = (FOUR, (("a", "c", 4),))
        self.assertNotEqual(thinned_for_pairs(KITE, (5, 4), pairs), thin)
        self.says(True, (shown, ((0, ("a", "c"), (0, 6, 6, 6)),)), thin, KITE, (5, 4), pairs)
        self.says(("tie", 0), (shown, ((0, ("a", "c"), (0, 5, 5, 5)),)), thin, KITE, (5, 4), pairs)
        # With a tie too many, none of both ways is needed.
        three = (FOUR, (("a", "b", 2), ("a", "c", 4), ("b", "c", 3)))
        things = ((0, ("a", "c"), (0, 6, 6, 6)),) * 3
        self.says(("tie", 0), (shown, things), three, KITE, (5, 4), pairs)

    def test_no_pairs(self):
        for net in (EMPTY, BARE, KITE):
            self.says(True, ((), ()), (net[0], ()), net, (1, 1), ())
            for paper in ((), [], ([], ()), ((), []), ((), (), ()), ((),), ((None,), ()), ((), (None,)), None):
                self.says(("shape", 0), paper, (net[0], ()), net, (1, 1), ())
        self.says(("tie", 0), ((), NEEDED), THIN, KITE, TIMES, ())

    def test_first_of_several(self):
        self.says(("pair", 0), ((None, None), (None, None, None)))
        self.says(("pair", 1), ((NEAR_AD, None), (None, None, None)))
        self.says(("tie", 0), (SHOWN, (None, None, None)))
        self.says(("tie", 1), (SHOWN, (NEED_AB, None, None)))
        self.says(("tie", 2), (SHOWN, (NEED_AB, NEED_BC, None)))
        self.says(("shape", 0), ((None, None), (None, None)))
        self.says(("shape", 0), ((None,), NEEDED))
        self.says(("shape", 0), ((None, None), (None, None, None)), (FOUR, THIN[1][::-1]))

    def test_bounds_of_lengths_and_times(self):
        for length in (1, 10 ** 6):
            net = (("a", "b"), (("a", "b", length),))
            near = ("near", ("a", "b"), (0, length))
            for times, least in (((1, 1), length + 1), ((10 ** 6, 1), length * 10 ** 6 + 1)):
                for gap, right in ((least, True), (least - 1, ("tie", 0))):
                    self.says(right, ((near,), ((0, ("a", "b"), (0, gap)),)), net, net, times, (("a", "b"),))
        # 10 ** 6 times a difference of 1 is enough for a tie of 10 ** 6, and of 0 it is not.
        need = (0, ("a", "b"), (0, 10 ** 12 + 1))
        self.says(True, ((("near", ("a", "b"), (4, 5)),), (need,)), net, net, (10 ** 6, 1), (("a", "b"),))
        self.says(("pair", 0), ((("near", ("a", "b"), (5, 5)),), (need,)), net, net, (10 ** 6, 1), (("a", "b"),))


class FromAllSides(Answers):
    def test_told_papers_of_small_nets_bent_and_spoiled(self):
        words = {}
        for number, net in enumerate(small_nets()):
            pairs = some_pairs(net, number, 3)
            times = ((1, 1), (3, 2), (10 ** 6, 1))[number % 3]
            thin = thinned_for_pairs(net, times, pairs)
            told = pairs_paper(net, times, pairs)
            for paper in spoiled(told) + bent(told):
                right = judged_pairs(net, times, pairs, thin, paper)
                self.says(right, paper, thin, net, times, pairs)
                words[right if right is True else right[0]] = True
            for other in spoiled(thin) + bent(thin):
                self.says(judged_pairs(net, times, pairs, other, told), told, other, net, times, pairs)
        self.assertEqual(set(words), {True, "shape", "pair", "tie"})

    def test_hand_written_papers_bent_and_spoiled(self):
        for paper in spoiled(PAPER) + bent(PAPER):
            self.says(judged_pairs(KITE, TIMES, PAIRS, THIN, paper), paper)
        for paper in spoiled(NET_PAPER) + bent(NET_PAPER):
            self.net_says(judged_pairs(NET, (1, 1), NET_PAIRS, NET_THIN, paper), paper)

    def test_any_plain_thing(self):
        for thing in STRANGE:
            self.says(judged_pairs(KITE, TIMES, PAIRS, THIN, thing), thing)
            self.says(("shape", 0), PAPER, thing)
            self.says(("shape", 0), thing, thing)
            self.says(("pair", 0), with_shown(0, thing))
            self.says(("pair", 1), with_shown(1, ("near", thing, NEAR_BC[2])))
            self.says(("pair", 1), with_shown(1, ("near", ("b", "c"), thing)))
            self.net_says(("pair", 0), ((("apart", thing), NET_PAPER[0][1]), NET_PAPER[1]))
            self.says(("tie", 2), with_needed(2, thing))
            self.says(("tie", 2), with_needed(2, (0, thing, NEED_CD[2])))
            self.says(("tie", 2), with_needed(2, (0, ("a", "d"), thing)))

    def test_any_plain_thing_at_every_place(self):
        for thing in SMALL_STRANGE:
            for paper in put_in(PAPER, thing):
                self.says(judged_pairs(KITE, TIMES, PAIRS, THIN, paper), paper)
            for paper in put_in(NET_PAPER, thing):
                self.net_says(judged_pairs(NET, (1, 1), NET_PAIRS, NET_THIN, paper), paper)
            for thin in put_in(THIN, thing):
                self.says(judged_pairs(KITE, TIMES, PAIRS, thin, PAPER), PAPER, thin)

    def test_let_by_just_where_times_are_kept_and_each_tie_is_needed(self):
        for number, net in enumerate(small_nets()):
            pairs = some_pairs(net, number, 3)
            for times in ((1, 1), (3, 2)):
                for thin in thin_nets(net):
                    told = answer(lets_pairs, net, times, pairs, thin, best_paper(net, times, pairs, thin))
                    right = keeps_for(net, times, pairs, thin)
                    lesser = [(net[0], tuple(other for other in thin[1] if other != tie)) for tie in thin[1]]
                    right = right and not any(keeps_for(net, times, pairs, less) for less in lesser)
                    self.assertEqual(told is True, right, (net, times, pairs, thin))

    def test_large_nets_and_thirty_pairs(self):
        for number, net in enumerate(large_nets()):
            pairs = some_pairs(net, number, 30)
            for times in ((1, 1), (3, 2), (10 ** 6, 1)):
                thin = thinned_for_pairs(net, times, pairs)
                paper = best_paper(net, times, pairs, thin)
                self.says(True, paper, thin, net, times, pairs)
                self.says(("pair", 29), (put(paper[0], 29, paper[0][0]), paper[1]), thin, net, times, pairs)
                if thin[1]:
                    last = len(thin[1]) - 1
                    self.says(("tie", last), (paper[0], put(paper[1], last, None)), thin, net, times, pairs)

    def test_refused_or_let_by_nothing_is_kept(self):
        self.says(("shape", 0), None)
        self.says(True, PAPER)
        self.says(("tie", 2), with_needed(2, None))
        self.says(True, PAPER)

    def test_of_like_lengths(self):
        pairs = (("b", "c"),)
        prices = (0, 0, 5, 5)
        two = (FOUR, (("a", "b", 5), ("a", "c", 5)))
        paper = ((("near", ("b", "a", "c"), prices),), ((0, ("b", "c"), (0, 11, 0, 0)), (0, ("b", "c"), (0, 0, 11, 0))))
        self.says(True, paper, two, ALIKE, (2, 1), pairs)
        self.says(("tie", 0), (paper[0], paper[1][::-1]), two, ALIKE, (2, 1), pairs)


def best_paper(net, times, pairs, thin):
    """A paper for this thin net that is refused by no one where any is let by."""
    least = all_least(net)
    shown = []
    for a, b in pairs:
        if (a, b) in least:
            shown.append(("near", way_of(thin, a, b), prices_from(net, b, 10 ** 15)))
        else:
            shown.append(("apart", tuple(place for place in net[0] if (b, place) not in least)))
    needed = []
    for tie in in_order(thin[1]):
        less = (thin[0], tuple(other for other in thin[1] if other != tie))
        lost = [pair for pair in pairs if not keeps_for(net, times, (pair,), less)]
        pair = lost[-1] if lost else ("a", "a")
        number = pairs.index(pair) if lost else 0
        needed.append((number, way_of(net, *pair), prices_from(less, pair[1], 10 ** 15)))
    return (tuple(shown), tuple(needed))


if __name__ == "__main__":
    unittest.main()
