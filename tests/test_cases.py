import unittest

from plainly import is_least_plainly, least_many, shows_plainly
from samples import (
    ALIKE, BARE, EMPTY, FOUR, KITE, SMALL_STRANGE, STRANGE, bent, full_net, kept_as_it_was, large_nets, nested, put,
    put_in, ring, small_nets, spoiled,
)
from thinnet.cases import is_least, shows
from thinnet.least import least_thin

# Of ac there is abc, just as long: by 1 ab and bc are enough, and both are needed.
TRI = (("a", "b", "c"), (("a", "b", 1), ("a", "c", 2), ("b", "c", 1)))
AB, AC, BC = TRI[1]
ENOUGH = ("enough",)
FAR_AB = ("far", AB, (0, 2, 1))
FAR_BC = ("far", BC, (1, 0, 2))
CASE = ("split", AB, ("split", BC, ENOUGH, FAR_BC), FAR_AB)
THIN = (TRI[0], (AB, BC))
WAYS = (("a", "b", "c"),)
ANSWER = (THIN, WAYS, CASE)


def row(many):
    """A net of so many ties, one behind another."""
    places = tuple("abcdefghijklmnopqrstuvwx"[:many + 1])
    return (places, tuple((a, b, 1) for a, b in zip(places, places[1:])))


def row_case(net, ties):
    """The case that each of these ties of such a net is needed, in this order."""
    case = ENOUGH
    for a, b, length in reversed(ties):
        far = ("far", (a, b, length), tuple(2 * (place >= b) for place in net[0]))
        case = ("split", (a, b, length), case, far)
    return case


def deep_case(ties, side):
    """A case of as many splits as ties, each within the one ahead: in its first or in its second case."""
    case = ENOUGH
    for tie in ties:
        case = ("split", tie, case, ENOUGH) if side == 0 else ("split", tie, ENOUGH, case)
    return case


def wide_case(ties, many):
    """A case of so many splits in all, as evenly as can be, over as few ties."""
    if many == 0:
        return ENOUGH
    return ("split", ties[0], wide_case(ties[1:], many // 2), wide_case(ties[1:], (many - 1) // 2))


class Answers(unittest.TestCase):
    def shows(self, right, thing, many=2, net=TRI, times=(1, 1)):
        told = kept_as_it_was(self, shows, net, times, many, thing)
        self.assertIs(told, right, repr((net, times, many, thing))[:600])
        self.assertIs(shows_plainly(net, times, many, thing), right)

    def least(self, right, thing, net=TRI, times=(1, 1)):
        told = kept_as_it_was(self, is_least, net, times, thing)
        self.assertIs(told, right, repr((net, times, thing))[:600])
        self.assertIs(is_least_plainly(net, times, thing), right)


class ShowsByHand(Answers):
    def test_right(self):
        self.shows(True, CASE)
        self.shows(True, CASE, 1)
        self.shows(True, CASE, 0)
        for many in (3, 4, 59, 60):
            self.shows(False, CASE, many)

    def test_in_any_order(self):
        self.shows(True, ("split", BC, ("split", AB, ENOUGH, FAR_AB), FAR_BC))
        # ac is settled ahead of the others, on either side.
        self.shows(True, ("split", AC, CASE, CASE))
        self.shows(True, ("split", AC, ("split", AB, ENOUGH, FAR_AB), CASE))
        first = ("split", BC, ("split", AB, ENOUGH, FAR_AB), FAR_BC)
        self.shows(True, ("split", AC, ("split", BC, ENOUGH, FAR_BC), first))

    def test_closed_late(self):
        self.shows(True, ENOUGH, 0)
        self.shows(True, ("split", AC, ENOUGH, ENOUGH), 0)
        self.shows(True, ("split", AB, ("split", BC, ("split", AC, ENOUGH, ENOUGH), FAR_BC), FAR_AB))
        late = ("split", BC, ("split", AC, FAR_AB, FAR_AB), FAR_AB)
        self.shows(True, ("split", AB, ("split", BC, ENOUGH, FAR_BC), late))
        # Once all is settled, just enough or far can close it.
        self.shows(True, ("split", AB, ENOUGH, late), 1)

    def test_closed_too_early(self):
        self.shows(False, ENOUGH)
        self.shows(False, ENOUGH, 1)
        self.shows(False, ("split", AB, ENOUGH, FAR_AB))
        self.shows(True, ("split", AB, ENOUGH, FAR_AB), 1)
        self.shows(False, ("split", AB, ENOUGH, ENOUGH), 1)
        self.shows(False, ("split", AB, ("split", BC, ENOUGH, ENOUGH), FAR_AB))
        # ac can be left out: with ab and bc kept it has a way as long as itself.
        for prices in ((0, 1, 3), (0, 1, 2), (3, 3, 0), (0, 0, 3)):
            self.shows(False, ("split", AC, CASE, ("far", AC, prices)))

    def test_enough(self):
        for many, right in ((0, True), (1, True), (2, True), (3, False), (4, False), (60, False)):
            self.shows(right, ("split", AB, ("split", BC, ("split", AC, ENOUGH, ENOUGH), FAR_BC), FAR_AB), many)
        # Left out does not count as kept.
        self.shows(False, ("split", AC, ENOUGH, ENOUGH), 1)
        self.shows(True, ("split", AC, ENOUGH, ("split", AB, ENOUGH, FAR_AB)), 1)
        for thing in (("enough", ()), ["enough"], "enough", ("Enough",), ("enough", "enough"), (ENOUGH,), (), (None,)):
            self.shows(False, thing, 0)

    def test_three_of_three(self):
        # One step longer, ac is needed, too.
        net = (TRI[0], (("a", "b", 1), ("a", "c", 1), ("b", "c", 1)))
        fars = [("far", ("a", "b", 1), (0, 2, 1)), ("far", ("a", "c", 1), (0, 1, 2)), ("far", ("b", "c", 1), (1, 0, 2))]
        case = ENOUGH
        for far in fars:
            case = ("split", far[1], case, far)
        self.shows(True, case, 3, net)
        self.shows(False, case, 4, net)
        # A way of 2 is within 2 of 1.
        self.shows(False, case, 3, net, (2, 1))
        self.shows(True, case, 3, net, (199, 100))

    def test_split_of_no_tie(self):
        for tie in (
            None, True, 0, "", "ab", (), ("a", "b"), ["a", "b", 1], ("b", "a", 1), ("a", "b", 2), ("a", "b", True),
            ("a", "b", "1"), ("a", "b", 1, 1), (AB,), ("a", "z", 1), ("a", "c", 1), ("a", "b", None), ("a", "b", [1]),
        ):
            self.shows(False, ("split", tie, CASE[2], CASE[3]))
            self.shows(False, ("split", tie, ENOUGH, ENOUGH), 0)

    def test_settled_and_split_again(self):
        self.shows(False, ("split", AB, ("split", AB, ENOUGH, ENOUGH), ENOUGH), 0)
        self.shows(False, ("split", AB, ENOUGH, ("split", AB, ENOUGH, ENOUGH)), 0)
        self.shows(False, ("split", AB, ("split", AB, CASE[2], FAR_AB), FAR_AB))
        self.shows(False, ("split", AB, ("split", BC, ("split", AB, ENOUGH, ENOUGH), FAR_BC), FAR_AB))
        self.shows(False, ("split", AB, CASE[2], ("split", BC, ("split", AB, FAR_AB, FAR_AB), FAR_AB)))
        # On both sides of another split it is settled once each.
        self.shows(True, ("split", AC, ("split", AB, ENOUGH, ENOUGH), ("split", AB, ENOUGH, ENOUGH)), 0)

    def test_far_of_a_tie_that_is_not_left_out(self):
        self.shows(False, FAR_AB)
        self.shows(False, ("split", AB, FAR_AB, FAR_AB))
        self.shows(False, ("split", AB, FAR_BC, FAR_AB))
        self.shows(False, ("split", AB, ("split", BC, ENOUGH, FAR_AB), FAR_AB))
        self.shows(False, ("split", AB, ("split", BC, FAR_BC, FAR_BC), FAR_AB))
        self.shows(False, ("split", AB, CASE[2], FAR_BC))
        self.shows(False, ("split", AB, CASE[2], ("split", BC, FAR_BC, FAR_BC)))
        for tie in (
            None, True, "", "ab", (), ("a", "b"), ["a", "b", 1], ("b", "a", 1), ("a", "b", True), ("a", "b", 2), (AB,),
            ("a", "b", 1, 1), ("z", "b", 1), AB + AB,
        ):
            self.shows(False, ("split", AB, CASE[2], ("far", tie, FAR_AB[2])))

    def test_far_of_any_tie_that_is_left_out(self):
        # With both left out either is far, whichever came first.
        for one, other in ((AB, BC), (BC, AB)):
            fars = {AB: FAR_AB, BC: FAR_BC}
            for far in (("far", AB, (0, 2, 0)), ("far", BC, (0, 2, 0)), ("far", AB, (0, 9, 0))):
                last = ("split", other, fars[one], far)
                self.shows(True, ("split", one, ("split", other, ENOUGH, fars[other]), last))
                self.shows(True, ("split", one, ENOUGH, ("split", other, ENOUGH, far)), 1)
                self.shows(False, ("split", one, ENOUGH, ("split", other, ENOUGH, far)), 2)
                self.shows(False, ("split", one, ENOUGH, ("split", other, far, far)), 1)

    def test_prices(self):
        # They are asked by ac and bc alone: ab is left out.
        for prices, right in (
            ((0, 2, 1), True), ((0, 3, 2), True), ((2, 0, 1), True), ((3, 0, 1), True),
            ((10 ** 39, 10 ** 39 + 2, 10 ** 39 + 1), True),
            ((0, 1, 1), False), ((0, 1, 0), False), ((0, 2, 0), False), ((0, 4, 3), False), ((0, 4, 2), False),
            ((0, 3, 1), False),
            ((0, 0, 0), False), ((1, 0, 2), False), ((0, 2), False), ((0, 2, 1, 0), False), ([0, 2, 1], False),
            ((0, 2, True), False),
            ((0, 2, "1"), False), ((-1, 1, 0), False), ((False, 2, 1), False), ((0, 2, None), False),
            ((0, 2, (1,)), False),
            (None, False), (True, False), ("", False), ("021", False), (((0, 2, 1),), False), ((), False),
        ):
            self.shows(right, ("split", AB, CASE[2], ("far", AB, prices)))

    def test_prices_are_fair_by_all_ties_that_are_not_left_out_so_far(self):
        # Once bc is left out, too, it is no more asked; kept or not settled it is.
        steep = ("far", AB, (0, 9, 0))
        self.shows(False, ("split", AB, CASE[2], steep))
        self.shows(False, ("split", AB, CASE[2], ("split", BC, steep, steep)))
        self.shows(False, ("split", AB, CASE[2], ("split", AC, steep, steep)))
        self.shows(True, ("split", AB, CASE[2], ("split", BC, FAR_AB, steep)))
        # Left out ahead of it counts as well.
        self.shows(True, ("split", BC, ("split", AB, ENOUGH, FAR_AB), ("split", AB, FAR_BC, steep)))
        self.shows(False, ("split", BC, ("split", AB, ENOUGH, steep), FAR_BC))

    def test_just_within_and_just_beyond(self):
        # Beyond 3/2 of 4 is 7: abc of 5 does not show it, and of 7 it does.
        for length, right in ((2, False), (3, False), (4, True)):
            net = (TRI[0], (("a", "b", 3), ("a", "c", 4), ("b", "c", length)))
            case = ("split", net[1][1], ENOUGH, ("far", net[1][1], (0, 3, 3 + length)))
            self.shows(right, case, 1, net, (3, 2))
        one = (("a", "b"), (("a", "b", 10 ** 6),))
        for gap, right in ((10 ** 12, False), (10 ** 12 + 1, True)):
            case = ("split", one[1][0], ENOUGH, ("far", one[1][0], (0, gap)))
            self.shows(right, case, 1, one, (10 ** 6, 1))
        for gap, right in ((10 ** 6, False), (10 ** 6 + 1, True)):
            self.shows(right, ("split", one[1][0], ENOUGH, ("far", one[1][0], (gap, 0))), 1, one, (1, 1))

    def test_no_case_at_all(self):
        for thing in (
            None, True, 0, "", "split", (), [], list(CASE), CASE[:3], CASE + (ENOUGH,), ("split",),
            ("Split",) + CASE[1:],
            ("",) + CASE[1:], (None,) + CASE[1:], (("split",),) + CASE[1:], ("far",) + CASE[1:],
            ("enough",) + CASE[1:], (CASE,),
            CASE[1:] + ("split",), ("split", AB, CASE[3], CASE[2]), ("split", AB, list(CASE[2]), CASE[3]),
            ("split", AB, CASE[2], list(CASE[3])), ("split", AB, CASE[2], None), ("split", AB, None, CASE[3]),
            ("split", AB, CASE[2], ("Far",) + FAR_AB[1:]), ("split", AB, CASE[2], FAR_AB + (0,)),
            ("split", AB, CASE[2], FAR_AB[:2]),
            ("split", AB, CASE[2], ("far", FAR_AB[2], AB)), ("split", AB, CASE[2], ("split",) + FAR_AB[1:]),
            ("split", AB, ("split", BC, ["enough"], FAR_BC), FAR_AB),
            ("split", AB, ("split", BC, "enough", FAR_BC), FAR_AB),
        ):
            self.shows(False, thing)

    def test_no_ties_and_no_places(self):
        for net in (EMPTY, BARE):
            self.shows(True, ENOUGH, 0, net)
            self.shows(False, ENOUGH, 1, net)
            for thing in ((), None, ("split", AB, ENOUGH, ENOUGH), ("far", AB, ())):
                self.shows(False, thing, 0, net)

    def test_numbers_to_sixty(self):
        for many in range(61):
            self.shows(many == 0, ENOUGH, many)
            self.shows(many <= 2, CASE, many)
            self.shows(many <= 14, row_case(row(14), row(14)[1]), many, row(14))


class Bounds(Answers):
    def test_fifteen_within_one_another(self):
        for net in (row(20), full_net(24, 60), large_nets()[2]):
            for side in (0, 1):
                for splits, right in ((13, True), (14, True), (15, False), (16, False)):
                    self.shows(right, deep_case(net[1][:splits], side), 0, net)

    def test_far_within_fifteen(self):
        for many, right in ((1, True), (10, True), (14, True), (15, False), (23, False)):
            net = row(many)
            for ties in (net[1], net[1][::-1]):
                self.shows(right, row_case(net, ties), many, net)
                self.shows(False, row_case(net, ties), many + 1, net)
                self.shows(False, row_case(net, ties[1:]), many, net)
        # Fourteen ties settled of more show fourteen, not fifteen.
        net = row(20)
        self.shows(True, row_case(net, net[1][3:17]), 14, net)
        self.shows(False, row_case(net, net[1][3:17]), 15, net)

    def test_four_thousand_in_all(self):
        for net in (row(20), full_net(24, 60)):
            for splits, right in ((1000, True), (1999, True), (2000, False), (2001, False), (4000, False)):
                case = wide_case(net[1], splits)
                self.assertEqual(repr(case).count("enough") + repr(case).count("split"), 2 * splits + 1)
                self.shows(right, case, 0, net)

    def test_deep_things(self):
        for depth in (15, 16, 40, 59):
            thing = ENOUGH
            for count in range(depth - 1):
                thing = ("split", AB, thing, ENOUGH)
            self.shows(False, thing, 0)
        self.shows(False, nested(60, tuple))
        self.shows(False, nested(60, list))


class ShowsFromAllSides(Answers):
    def test_told_cases_bent_and_spoiled(self):
        right_ones = 0
        for number, net in enumerate([TRI, KITE, ALIKE, *small_nets()[:16]]):
            times = ((1, 1), (3, 2), (3, 1))[number % 3]
            thin, ways, case = least_thin(net, times)
            many = least_many(net, times)
            if len(repr(case)) > 600:
                continue
            for other in spoiled(case) + bent(case):
                right = shows_plainly(net, times, many, other)
                right_ones += right
                self.shows(right, other, many, net, times)
                # What shows it is never wrong.
                self.assertIs(shows(net, times, many + 1, other), False)
        self.assertGreater(right_ones, 100)

    def test_any_plain_thing(self):
        for thing in STRANGE:
            self.shows(False, thing)
            self.shows(False, thing, 0)
            self.shows(False, ("split", thing, ENOUGH, ENOUGH), 0)
            self.shows(False, ("split", AB, thing, ENOUGH), 0)
            self.shows(False, ("split", AB, ENOUGH, thing), 0)
            self.shows(False, ("split", AB, CASE[2], ("far", thing, FAR_AB[2])))
            self.shows(False, ("split", AB, CASE[2], ("far", AB, thing)))
            self.shows(False, (thing,), 0)

    def test_any_plain_thing_at_every_place(self):
        for thing in SMALL_STRANGE:
            for case in put_in(CASE, thing):
                self.shows(shows_plainly(TRI, (1, 1), 2, case), case)

    def test_told_cases_show_no_more(self):
        for net in small_nets():
            for times in ((1, 1), (3, 2), (3, 1), (10 ** 6, 1)):
                many = least_many(net, times)
                case = least_thin(net, times)[2]
                for number in range(many + 3):
                    self.shows(number <= many, case, number, net, times)

    def test_asked_again(self):
        self.shows(False, CASE, 3)
        self.shows(True, CASE)
        self.shows(False, None)
        self.shows(True, CASE)


class LeastByHand(Answers):
    def test_right(self):
        self.least(True, ANSWER)

    def test_another_hand(self):
        # There and back is as long as a length of 10 lets it be.
        net = (TRI[0], (("a", "b", 1), ("a", "c", 10), ("b", "c", 1)))
        case = ("split", BC, ("split", AB, ENOUGH, ("far", AB, (0, 10, 10))), ("far", BC, (0, 0, 10)))
        for many, right in ((1, True), (5, True), (6, False)):
            self.least(right, (THIN, (("a", "b") * many + ("c",),), case), net)
        # Of two stars of like ties each one is right.
        for place in FOUR:
            thin = (FOUR, tuple(tie for tie in ALIKE[1] if place in tie))
            out = [tie for tie in ALIKE[1] if place not in tie]
            self.least(True, (thin, tuple((a, place, b) for a, b, length in out), star_case()), ALIKE, (2, 1))

    def test_wrong_kinds(self):
        for thing in (
            None, True, 0, "", "abc", (), [], list(ANSWER), ANSWER[:2], ANSWER + ((),), (ANSWER,), ANSWER[::-1],
            (THIN,),
            (list(THIN), WAYS, CASE), (THIN, list(WAYS), CASE), (THIN, WAYS, list(CASE)), (None, WAYS, CASE),
            (THIN, None, CASE), (THIN, WAYS, None), ((THIN[0], list(THIN[1])), WAYS, CASE),
            ((TRI[0], (("a", "b", True), BC)), WAYS, CASE), ((TRI[0], (BC, AB)), WAYS, CASE), (TRI[0], WAYS, CASE),
        ):
            self.least(False, thing)

    def test_thin_net_that_does_not_keep_times(self):
        self.least(False, ((TRI[0], (AB,)), WAYS, CASE))
        self.least(False, ((TRI[0], (AB,)), (("a", "b"), ("a", "b", "c")), CASE))
        self.least(False, ((TRI[0], ()), (("a", "b"), ("b", "c"), ("a", "c")), ENOUGH))
        self.least(False, ((TRI[0], (AB, AC)), (("b", "a", "c"),), CASE))
        for way in (("a", "c"), ("c", "b", "a"), ("a", "b", "a", "b", "c"), None, (), ["a", "b", "c"], "abc"):
            self.least(False, (THIN, (way,), CASE))
        self.least(False, (THIN, (), CASE))
        self.least(False, (THIN, WAYS + WAYS, CASE))

    def test_thin_net_that_is_not_least(self):
        self.least(False, (TRI, (), CASE))
        self.least(False, (TRI, (), ENOUGH))
        self.least(False, (THIN, WAYS, ENOUGH))
        self.least(False, (THIN, WAYS, ("split", AB, ENOUGH, FAR_AB)))
        self.least(False, (THIN, WAYS, ("split", AB, ENOUGH, ENOUGH)))

    def test_no_ties(self):
        for net in (EMPTY, BARE):
            self.least(True, (net, (), ENOUGH), net)
            for ways, case in (((), ()), ([], ENOUGH), (None, ENOUGH), (((),), ENOUGH), ((), ["enough"])):
                self.least(False, (net, ways, case), net)

    def test_more_than_ten_ties(self):
        for many, right in ((10, True), (11, True), (14, True), (15, False), (20, False)):
            net = row(many)
            self.least(right, (net, (), row_case(net, net[1])), net)
            self.least(right, (net, (), row_case(net, net[1][::-1])), net, (1, 1))
            self.least(False, (net, (), row_case(net, net[1])), net, (2, 1))
        # A ring of twelve: eleven are enough from 11 on, and two of them can't both be left out.
        net = ring(tuple("abcdefghijkl"))
        told = ring_case(net)
        thin = (net[0], tuple(tie for tie in net[1] if tie != ("a", "l", 1)))
        self.least(True, (thin, (tuple("abcdefghijkl"),), told), net, (11, 1))
        self.least(False, (thin, (tuple("abcdefghijkl"),), told), net, (1099, 100))
        self.least(False, (net, (), told), net, (11, 1))


def star_case():
    """Of four places with like ties: no two ties are enough by 2, since three places or four are then apart."""
    return least_thin(ALIKE, (2, 1))[2]


def ring_case(net):
    """That no two ties of a ring can be left out: with one of them out, each other one is needed."""
    def other_ones(out, ties):
        case = ENOUGH
        for tie in reversed(ties):
            # Without both ties the ring falls into two pieces: one is free to be as far off as it likes.
            side = piece(net, [out, tie])
            case = ("split", tie, case, ("far", tie, tuple(10 ** 9 * (place in side) for place in net[0])))
        return case

    ties = net[1]
    case = ENOUGH
    for number in reversed(range(len(ties) - 1)):
        case = ("split", ties[number], case, other_ones(ties[number], ties[number + 1:]))
    return case


def piece(net, out):
    """The places that the first end of the last of these ties reaches without them."""
    found = [out[-1][0]]
    for place in found:
        for tie in net[1]:
            if tie not in out and place in tie:
                found += [other for other in tie[:2] if other not in found]
    return found


class LeastFromAllSides(Answers):
    def test_told_answers_bent_and_spoiled(self):
        right_ones = 0
        for number, net in enumerate([TRI, KITE, ALIKE, *small_nets()[:16]]):
            times = ((1, 1), (3, 2), (3, 1))[number % 3]
            told = least_thin(net, times)
            self.least(True, told, net, times)
            if len(repr(told)) > 600:
                continue
            many = least_many(net, times)
            for other in spoiled(told) + bent(told):
                right = is_least_plainly(net, times, other)
                right_ones += right
                self.least(right, other, net, times)
                self.assertTrue(not right or len(other[0][1]) == many)
        self.assertGreater(right_ones, 50)

    def test_any_plain_thing(self):
        for thing in STRANGE:
            self.least(False, thing)
            self.least(False, put(ANSWER, 0, thing))
            self.least(False, put(ANSWER, 1, thing))
            self.least(False, put(ANSWER, 2, thing))
            self.least(False, (thing,) * 3)

    def test_any_plain_thing_at_every_place(self):
        for thing in SMALL_STRANGE:
            for other in put_in(ANSWER, thing):
                self.least(is_least_plainly(TRI, (1, 1), other), other)

    def test_answers_for_other_times_and_nets(self):
        self.least(False, least_thin(KITE, (3, 2)), KITE, (5, 4))
        self.least(False, least_thin(KITE, (1, 1)), KITE, (3, 2))
        self.least(False, least_thin(KITE, (1, 1)), ALIKE, (1, 1))
        self.least(False, ANSWER, KITE)

    def test_a_net_somewhat_beyond_is_not_refused_for_it(self):
        places = tuple("abcdefghijklmnopqrstuvwxyz")
        net = (places, (("a", "b", 10 ** 6 + 1),))
        prices = (0,) + (10 ** 6 + 2,) * 25
        self.least(True, (net, (), ("split", net[1][0], ENOUGH, ("far", net[1][0], prices))), net)


if __name__ == "__main__":
    unittest.main()
