import unittest

from plainly import ahead, all_least, breakers, in_order, judged_breaking, lengths_of, less_by, within
from samples import (
    ALIKE, BARE, EMPTY, FOUR, KITE, SMALL_STRANGE, STRANGE, answer, bent, large_nets, put, put_in, small_nets, spoiled,
    thin_nets,
)
from thinnet.breakchecking import lets_breaking
from thinnet.nets import only
from thinnet.steady import breaking_paper, steady_thinned
from thinnet.ways import way_of

# By 2, of the four places with like ties, one of which may break, all are kept but cd.
# In order: ab, ac, ad, bc, bd, cd, each of 5.
TIMES = (2, 1)
AB, AC, AD, BC, BD, CD = ALIKE[1]
THIN = (FOUR, (AB, AC, AD, BC, BD))
IN_AB = ("in", (), (0, 11, 0, 0))
IN_AC = ("in", (), (0, 0, 11, 0))
IN_AD = ("in", (), (0, 0, 0, 11))
IN_BC = ("in", (AB,), (0, 11, 0, 0))
IN_BD = ("in", (AB,), (5, 11, 6, 0))
CAD = ("c", "a", "d")
CBD = ("c", "b", "d")
OUT_CD = ("out", (CAD, ((CBD, ()), (CBD, ()))))
PAPER = (IN_AB, IN_AC, IN_AD, IN_BC, IN_BD, OUT_CD)

# Of five places, where two ties may break: cde are joined with a and b alone, but de by its own tie, too.
FIVE = (
    ("a", "b", "c", "d", "e"),
    (("a", "c", 1), ("a", "d", 1), ("a", "e", 1), ("b", "c", 1), ("b", "d", 1), ("b", "e", 1), ("d", "e", 1)),
)


def with_out(bush):
    return put(PAPER, 5, ("out", bush))


class Answers(unittest.TestCase):
    def says(self, right, paper, thin=THIN, net=ALIKE, times=TIMES, many=1):
        told = answer(lets_breaking, net, times, many, thin, paper)
        self.assertEqual(repr(told), repr(right), repr((net, times, many, thin, paper))[:600])
        self.assertEqual(judged_breaking(net, times, many, thin, paper), right)


class ByHand(Answers):
    def test_let_by(self):
        self.says(True, PAPER)

    def test_shape_of_the_paper(self):
        for paper in (
            None, True, 6, "", "in", "inoutx", [], (), list(PAPER), PAPER[:5], PAPER + (OUT_CD,), (PAPER,),
            PAPER + ((),),
        ):
            self.says(("shape", 0), paper)

    def test_shape_of_the_thin_net(self):
        places, ties = THIN
        for thin in (
            None, True, "", (), [], list(THIN), (places,), (places, ties, ()), (list(places), ties),
            (places, list(ties)), (places[:3], ties[:2]), (places + ("e",), ties), (places, ties[::-1]),
            (places, ties + ties[4:]), (places, ties[:4] + (["b", "d", 5],)), (places, ties[:4] + (("b", "d", 6),)),
            (places, ties[:4] + (None,)), (places, ties[:4] + (("b", "d"),)), (places, (("b", "a", 5),) + ties[1:]),
        ):
            self.says(("shape", 0), PAPER, thin)

    def test_true_is_no_1(self):
        net = (("a", "b", "c"), (("a", "b", 1), ("a", "c", 1), ("b", "c", 1)))
        paper = (("in", (), (0, 9, 0)), ("in", (), (0, 0, 9)), ("in", (("a", "b", 1),), (0, 9, 0)))
        self.says(True, paper, net, net)
        self.says(("in", 2), put(paper, 2, ("in", (("a", "b", True),), (0, 9, 0))), net, net)
        self.says(("in", 0), put(paper, 0, ("in", (), (True, 9, 0))), net, net)
        self.says(("shape", 0), paper, (net[0], (("a", "b", True),) + net[1][1:]), net)

    def test_word(self):
        for thing in (
            None, True, 0, "", "in", "out", (), [], ("in",), ("in", ()), IN_BD + ((),), list(IN_BD), OUT_CD,
            ("In",) + IN_BD[1:], ("",) + IN_BD[1:], ("out",) + IN_BD[1:], (("in",),) + IN_BD[1:], (["in"],) + IN_BD[1:],
            (None,) + IN_BD[1:], (True,) + IN_BD[1:], IN_BD[1:] + ("in",), (IN_BD,), "inn",
        ):
            self.says(("word", 4), put(PAPER, 4, thing))
        for thing in (
            None, True, 0, "", "in", "out", "ou", (), [], ("out",), OUT_CD + ((),), list(OUT_CD), IN_BD,
            ("Out", OUT_CD[1]), ("in", OUT_CD[1]), (("out",), OUT_CD[1]), (["out"], OUT_CD[1]), (None, OUT_CD[1]),
            OUT_CD[::-1], OUT_CD[1], ("in", (), (0, 0, 0, 11)),
        ):
            self.says(("word", 5), put(PAPER, 5, thing))

    def test_word_of_other_thin_nets(self):
        self.says(("word", 5), PAPER, ALIKE)
        self.says(("word", 4), PAPER, (FOUR, THIN[1][:4]))
        self.says(("word", 0), PAPER, BARE)

    def test_in_has_no_such_broken_ties(self):
        for broken in (
            None, True, 1, "", "ab", [], [AB], AB, (None,), ("ab",), (list(AB),), (("a", "b"),), (("b", "a", 5),),
            (("a", "b", 6),), (AB, AB), (AB, AC), (BD,), (CD,), (AB + (1,),), ((AB,),), ([],), (1,),
        ):
            self.says(("in", 4), put(PAPER, 4, ("in", broken, IN_BD[2])))

    def test_broken_ties_go_ahead_and_are_of_the_thin_net(self):
        # Without bd itself or a tie behind it, nothing is shown; cd is not even of the thin net.
        self.says(("in", 3), put(PAPER, 3, ("in", (BD,), IN_BC[2])))
        self.says(True, put(PAPER, 3, ("in", (AC,), (0, 0, 11, 0))))
        self.says(("in", 3), put(PAPER, 3, ("in", (AC,), (0, 6, 11, 0))))
        self.says(True, put(PAPER, 3, ("in", (AC,), (0, 5, 16, 0))))

    def test_broken_are_rising_and_at_most_many(self):
        paper = tuple(("in", (), tuple(11 * (place == tie[1]) for place in FOUR)) for tie in (AB, AC, AD))
        paper += (("in", (AB,), (0, 11, 0, 0)), ("in", (AB, BC), (0, 11, 0, 0)), ("in", (AD, BD), (0, 0, 0, 11)))
        self.says(True, paper, ALIKE, many=2)
        self.says(("in", 4), paper, ALIKE, many=1)
        self.says(("in", 3), paper, ALIKE, many=0)
        # Ties that need not break may stand among them, as long as they are not too many.
        self.says(True, put(paper, 3, ("in", (AB, AC), (0, 11, 0, 0))), ALIKE, many=2)
        self.says(True, put(paper, 3, ("in", (AB, AD), (0, 11, 0, 0))), ALIKE, many=2)
        for broken in (
            (BC, AB), (AB, AB), (AB, AB, BC), (AB, AC, BC), (AB,), (BC,), (), (AB, BD), (AB, CD), (AB, None),
            (AB, list(BC)),
            (AB, (BC,)), (AB, ("b", "c", 4)), (AB, ("b", "c")), [AB, BC],
        ):
            self.says(("in", 4), put(paper, 4, ("in", broken, (0, 11, 0, 0))), ALIKE, many=2)

    def test_in_has_no_fair_prices(self):
        for prices in (
            None, True, 0, "", (), (5, 11, 6), (5, 11, 6, 0, 0), [5, 11, 6, 0], (5, 11, 6, "0"), (5, 11, 6, None),
            (5, 11, 6, False), (5, 11, 6, (0,)), (4, 10, 5, -1), (0, 11, 6, 0), (5, 11, 0, 0), (6, 11, 6, 0),
            (5, 11, 5, 0), (5, 12, 6, 0), (6, 16, 11, 0), (5, 11, 11, 0),
        ):
            self.says(("in", 4), put(PAPER, 4, ("in", (AB,), prices)))

    def test_fair_by_those_ahead_that_are_not_broken(self):
        # ab is broken, bd itself and cd are not asked.
        self.says(True, put(PAPER, 4, ("in", (AB,), (5, 15, 10, 0))))
        self.says(("in", 4), put(PAPER, 4, ("in", (AD,), (5, 15, 10, 0))))
        self.says(True, put(PAPER, 4, ("in", (AD,), (11, 11, 11, 0))))
        self.says(("in", 4), put(PAPER, 4, ("in", (), (5, 10, 5, 0))))
        self.says(("in", 4), put(PAPER, 4, ("in", (), (0, 11, 6, 0))))

    def test_in_just_within_and_just_beyond(self):
        # Beyond 2 of 5 is 11.
        for gap, right in ((10, ("in", 4)), (11, True), (12, True), (0, ("in", 4))):
            self.says(right, put(PAPER, 4, ("in", (AD,), (gap, gap, gap, 0))))
            self.says(right, put(PAPER, 4, ("in", (AD,), (0, 0, 0, gap))))
        for gap, right in ((10, ("in", 0)), (11, True), (10 ** 39, True)):
            self.says(right, put(PAPER, 0, ("in", (), (0, gap, 10 ** 39, 0))))

    def test_out_has_no_bush(self):
        for bush in (
            None, True, 0, "", "ab", (), [], (CAD,), (CAD, (), ()), list(OUT_CD[1]), CAD, (CAD, None), (CAD, []),
            (CAD, [(CBD, ()), (CBD, ())]), (OUT_CD[1],), ("out", OUT_CD[1]), OUT_CD[1][::-1], ((), ()),
        ):
            self.says(("out", 5), with_out(bush))

    def test_bush_has_no_way(self):
        for way in (
            None, True, "", "cad", (), ("c",), ("c", "d"), ("d", "a", "c"), ["c", "a", "d"], ("c", "a"), ("a", "d"),
            ("c", "a", "z", "d"), ("c", ("a",), "d"), ("c", "a", "a", "d"), (0, 1, 2), ("c", "a", None),
            (True, "a", "d"),
        ):
            self.says(("out", 5), with_out((way, OUT_CD[1][1])))
            self.says(("out", 5), with_out((CAD, ((way, ()), (CBD, ())))))
            self.says(("out", 5), with_out((CAD, ((CBD, ()), (way, ())))))

    def test_bush_goes_by_ties_that_are_not_taken_away(self):
        self.says(("out", 5), with_out((CAD, ((CAD, ()), (CBD, ())))))
        self.says(("out", 5), with_out((CAD, ((CBD, ()), (CAD, ())))))
        self.says(True, with_out((CBD, ((CAD, ()), (CAD, ())))))
        # The tie that is taken away is the one of the step, ac ahead of ad: with wider times both are seen.
        wide = (10 ** 6, 1)
        far = 5 * 10 ** 6 + 1
        paper = tuple(("in", broken, tuple(far * (place == end) for place in FOUR)) for broken, end in (
            ((), "b"), ((), "c"), ((), "d"), ((AB,), "b"), ((AD,), "d")))
        first = (("c", "b", "a", "d"), ())
        second = (("c", "a", "b", "d"), ())
        self.says(True, paper + (("out", (CAD, (first, second))),), times=wide)
        self.says(("out", 5), paper + (("out", (CAD, (second, first))),), times=wide)
        self.says(("out", 5), paper + (("out", (CAD, (first, first))),), times=wide)
        self.says(("out", 5), paper + (("out", (CAD, (second, second))),), times=wide)

    def test_bush_goes_by_ties_ahead_of_the_thin_net(self):
        # By 4 with none broken, bc of the net is left out and bd may be too; cd goes behind both.
        net = (FOUR, (AB, AC, BC, BD, CD))
        thin = (FOUR, (AB, AC, BD))
        far = tuple(("in", (), tuple(21 * (place >= end) for place in FOUR)) for end in "bc")
        paper = far + (("out", (("b", "a", "c"), ())), ("in", (), (0, 0, 0, 21)), ("out", (("c", "a", "b", "d"), ())))
        self.says(True, paper, thin, net, (4, 1), 0)
        self.says(("out", 4), put(paper, 4, ("out", (("c", "b", "d"), ()))), thin, net, (4, 1), 0)
        self.says(("out", 4), put(paper, 4, ("out", (("c", "d"), ()))), thin, net, (4, 1), 0)
        self.says(("out", 2), put(paper, 2, ("out", (("b", "d", "b", "a", "c"), ()))), thin, net, (4, 1), 0)
        self.says(True, put(paper, 2, ("out", (("b", "a", "b", "a", "c"), ()))), thin, net, (4, 1), 0)
        self.says(("out", 2), put(paper, 2, ("out", (("b", "a", "b", "a", "b", "a", "c"), ()))), thin, net, (4, 1), 0)

    def test_bush_just_within_and_just_beyond(self):
        self.says(("in", 0), PAPER, times=(11, 5))
        self.says(("out", 5), PAPER, times=(199, 100))
        self.says(True, PAPER, times=(219, 100))
        paper = put(PAPER, 5, ("out", (CAD, ((CBD, ()), (("c", "b", "c", "b", "d"), ())))))
        self.says(("out", 5), paper)

    def test_bushes_are_as_many_as_steps(self):
        for bushes in (
            (), ((CBD, ()),), ((CBD, ()),) * 3, ((CBD, ()), ()), ((CBD, ()), None), ((CBD, ()), (CBD, None)),
            ((CBD, ()), CBD),
            ((CBD, ()), (CBD, [])), ((CBD, ()), (CBD, ((CAD, ()),))), ((CBD, ()), (CBD, ((),))), ((CBD, ()), [CBD, ()]),
            ((CBD, ()), (CBD, ((CAD, ()), (CAD, ())))), ((CBD, ()), (CBD, "")), ((CBD, ()), (CBD, 0)),
            ((CBD, ()), (CBD,)),
        ):
            self.says(("out", 5), with_out((CAD, bushes)))
        # Where none may break, there are no bushes.
        paper = tuple(("in", (), tuple(11 * (place == end) for place in FOUR)) for end in "bcd")
        paper += tuple(("out", ((a, "a", b), ())) for a, b in ("bc", "bd", "cd"))
        three = (FOUR, (AB, AC, AD))
        self.says(True, paper, three, many=0)
        self.says(("out", 3), paper, three, many=1)
        self.says(("out", 4), put(paper, 4, ("out", (("b", "a", "d"), ((CBD, ()), (CBD, ()))))), three, many=0)

    def test_a_step_that_comes_twice_has_a_bush_each_time(self):
        # There and back over ab is 6 in all, 6/10 of cd's length; each of its four steps may break.
        net = (FOUR, (("a", "b", 1), ("a", "c", 2), ("a", "d", 2), ("b", "c", 2), ("b", "d", 2), ("c", "d", 10)))
        near = [("in", (), tuple(7 * (place == end) for place in FOUR)) for end in "bcd"]
        near += [("in", (("a", "c", 2),), (0, 0, 7, 0)), ("in", (("a", "d", 2),), (0, 0, 0, 7))]
        thin = (FOUR, net[1][:5])
        way = ("c", "a", "b", "a", "d")
        bushes = ((CBD, ()), (CAD, ()), (CBD, ()), (CBD, ()))
        paper = (*near, ("out", (way, bushes)))
        self.says(True, paper, thin, net, (1, 1))
        for number in range(4):
            less = bushes[:number] + bushes[number + 1:]
            self.says(("out", 5), put(paper, 5, ("out", (way, less))), thin, net, (1, 1))
        self.says(("out", 5), put(paper, 5, ("out", (way, put(bushes, 3, (CAD, ()))))), thin, net, (1, 1))
        self.says(("out", 5), put(paper, 5, ("out", (way, put(bushes, 0, (CAD, ()))))), thin, net, (1, 1))

    def test_two_broken(self):
        # Of de there are dae and dbe alone within 2, and dacbe within 4: two ties take away all of them.
        for times in ((2, 1), (4, 1)):
            self.assertEqual(steady_thinned(FIVE, times, 2), FIVE)
        self.assertEqual(steady_thinned(FIVE, (2, 1), 1), only(FIVE, FIVE[1][:6]))
        paper = breaking_paper(FIVE, (2, 1), 2)
        self.says(True, paper, FIVE, FIVE, (2, 1), 2)
        for broken, right in (
            ((("a", "d", 1), ("b", "d", 1)), True), ((("a", "e", 1), ("b", "e", 1)), ("in", 6)),
            ((("a", "d", 1), ("b", "e", 1)), ("in", 6)), ((("a", "d", 1),), ("in", 6)),
            ((("a", "d", 1), ("d", "e", 1)), ("in", 6)), ((("b", "d", 1), ("a", "d", 1)), ("in", 6)),
        ):
            self.says(right, put(paper, 6, ("in", broken, (0, 0, 0, 3, 0))), FIVE, FIVE, (2, 1), 2)

    def test_bushes_of_two_broken(self):
        # From a to b lead acb of 6, adb of 8 and aeb of 10: whichever two ties break, one of them is left.
        ties = (("a", "b", 6), ("a", "c", 3), ("a", "d", 4), ("a", "e", 5), ("b", "c", 3), ("b", "d", 4), ("b", "e", 5))
        net = (("a", "b", "c", "d", "e"), ties)
        thin = (net[0], ties[1:])
        told = breaking_paper(net, (10, 6), 2)
        self.assertEqual(steady_thinned(net, (10, 6), 2), thin)
        acb, adb, aeb = (("a", place, "b") for place in "cde")
        last = (aeb, ())
        inner = (adb, (last, last))
        self.says(True, put(told, 6, ("out", (acb, (inner, inner)))), thin, net, (10, 6), 2)
        other = (aeb, ((adb, ()), (adb, ())))
        self.says(True, put(told, 6, ("out", (acb, (inner, other)))), thin, net, (10, 6), 2)
        self.says(True, put(told, 6, ("out", (aeb, (((acb, ((adb, ()),) * 2),) * 2)))), thin, net, (10, 6), 2)
        for wrong in (
            (adb, (last, (acb, ()))), (adb, ((adb, ()), last)), (adb, (last,)), (adb, ()), (adb, (last, last, last)),
            (adb, (last, (aeb, (last,)))), (acb, (last, last)), (adb, (last, None)), (adb, (last, ("a", "e"))),
            (adb, [last, last]), (adb, (last, [aeb, ()])), (adb, (last, (aeb, []))), last,
        ):
            self.says(("out", 6), put(told, 6, ("out", (acb, (wrong, inner)))), thin, net, (10, 6), 2)
        # The first tie taken away is gone from the whole bush of its step, not from that of the other one.
        self.says(("out", 6), put(told, 6, ("out", (acb, (inner, (adb, (last, (acb, ()))))))), thin, net, (10, 6), 2)
        self.says(("out", 6), put(told, 6, ("out", (acb, (inner, inner)))), thin, net, (999999, 600000), 2)

    def test_first_of_several(self):
        wrong = ("in", None, None)
        self.says(("in", 0), (wrong,) * 5 + (None,))
        self.says(("word", 1), put(put(PAPER, 4, wrong), 1, None))
        self.says(("in", 1), put(put(PAPER, 4, None), 1, wrong))
        self.says(("in", 4), put(put(PAPER, 4, wrong), 5, None))
        self.says(("word", 4), put(put(PAPER, 4, None), 5, ("out", None)))
        self.says(("word", 0), (None,) * 6)
        self.says(("shape", 0), (None,) * 5)
        self.says(("shape", 0), (None,) * 6, (FOUR, THIN[1][::-1]))

    def test_nets_without_ties(self):
        for net in (EMPTY, BARE):
            for many in (0, 1, 2):
                self.says(True, (), net, net, (1, 1), many)
                for paper in ([], None, "", ((),), (("in", (), ()),)):
                    self.says(("shape", 0), paper, net, net, (1, 1), many)
        self.says(("shape", 0), (), EMPTY, BARE)

    def test_one_tie_of_the_bounds(self):
        for length in (1, 10 ** 6):
            net = (("a", "b"), (("a", "b", length),))
            for times, least in (((1, 1), length + 1), ((10 ** 6, 1), length * 10 ** 6 + 1)):
                for many in (0, 1, 2):
                    self.says(True, (("in", (), (0, least)),), net, net, times, many)
                    self.says(("in", 0), (("in", (), (0, least - 1)),), net, net, times, many)
                    self.says(("in", 0), (("in", net[1], (0, least)),), net, net, times, many)
                    self.says(("out", 0), (("out", (("a", "b"), ())),), (net[0], ()), net, times, many)


class FromAllSides(Answers):
    def test_told_papers_of_small_nets_bent_and_spoiled(self):
        words = {}
        for number, net in enumerate(small_nets()):
            times = ((1, 1), (3, 2), (2, 1), (10 ** 6, 1))[number % 4]
            many = number % 3
            thin = steady_thinned(net, times, many)
            told = breaking_paper(net, times, many)
            for paper in spoiled(told) + bent(told):
                right = judged_breaking(net, times, many, thin, paper)
                self.says(right, paper, thin, net, times, many)
                words[right if right is True else right[0]] = True
            for other in spoiled(thin) + bent(thin):
                self.says(judged_breaking(net, times, many, other, told), told, other, net, times, many)
        self.assertEqual(set(words), {True, "shape", "word", "in", "out"})

    def test_hand_written_paper_bent_and_spoiled(self):
        for paper in spoiled(PAPER) + bent(PAPER):
            self.says(judged_breaking(ALIKE, TIMES, 1, THIN, paper), paper)
        for thin in spoiled(THIN) + bent(THIN):
            self.says(judged_breaking(ALIKE, TIMES, 1, thin, PAPER), PAPER, thin)

    def test_any_plain_thing(self):
        for thing in STRANGE:
            self.says(("shape", 0), thing)
            self.says(("shape", 0), PAPER, thing)
            self.says(("shape", 0), thing, thing)
            self.says(("word", 0), (thing,) * 6)
            self.says(("in", 0), put(PAPER, 0, ("in", (), thing)))
            # Of AD nothing need break: so no broken ties are broken ties, too.
            right = True if repr(thing) == "()" else ("in", 2)
            self.says(right, put(PAPER, 2, ("in", thing, IN_AD[2])))
            self.says(("out", 5), with_out(thing))
            self.says(("out", 5), with_out((thing, OUT_CD[1][1])))
            self.says(("out", 5), with_out((CAD, thing)))

    def test_any_plain_thing_at_every_place(self):
        for thing in SMALL_STRANGE:
            for paper in put_in(PAPER, thing):
                self.says(judged_breaking(ALIKE, TIMES, 1, THIN, paper), paper)
            for thin in put_in(THIN, thing):
                self.says(judged_breaking(ALIKE, TIMES, 1, thin, PAPER), PAPER, thin)

    def test_papers_of_another_hand(self):
        for net in [*small_nets(), FIVE]:
            for times in ((1, 1), (3, 2), (3, 1)):
                for many in (0, 1, 2):
                    thin = steady_thinned(net, times, many)
                    for last in (0, -1):
                        paper = other_paper(net, times, many, thin, last)
                        self.says(True, paper, thin, net, times, many)

    def test_no_other_thin_net_is_let_by(self):
        for net in small_nets():
            for times, many in (((1, 1), 1), ((3, 2), 1), ((3, 1), 1), ((3, 1), 2), ((10 ** 6, 1), 2)):
                right = steady_thinned(net, times, many)
                for thin in thin_nets(net):
                    told = answer(lets_breaking, net, times, many, thin, other_paper(net, times, many, thin, 0))
                    self.assertEqual(told is True, thin == right, (net, times, many, thin))

    def test_large_nets(self):
        for net in large_nets():
            for times in ((3, 1), (10 ** 6, 1)):
                thin = steady_thinned(net, times, 2)
                told = breaking_paper(net, times, 2)
                self.says(True, told, thin, net, times, 2)
                last = len(told) - 1
                word = told[last][0]
                self.says((word, last), put(told, last, (word,) + (None,) * (len(told[last]) - 1)), thin, net, times, 2)
                self.says(("word", last), put(told, last, None), thin, net, times, 2)

    def test_two_faults(self):
        wrong = [None, ("in", (), None), ("in", (CD,), (0, 11, 0, 0)), ("out", None), ("out", (CAD, ())), ("in",)]
        for first in range(6):
            for second in range(6):
                for one in wrong:
                    for other in wrong:
                        paper = put(put(PAPER, first, one), second, other)
                        self.says(judged_breaking(ALIKE, TIMES, 1, THIN, paper), paper)

    def test_refused_or_let_by_nothing_is_kept(self):
        self.says(("shape", 0), None)
        self.says(True, PAPER)
        self.says(("word", 0), PAPER, BARE)
        self.says(True, PAPER)

    def test_a_net_somewhat_beyond_is_not_refused_for_it(self):
        places = tuple("abcdefghijklmnopqrstuvwxyz")
        net = (places, tuple((a, b, 10 ** 6 + 1) for a in "abc" for b in places[3:]))
        thin = steady_thinned(net, (3, 1), 1)
        told = answer(lets_breaking, net, (3, 1), 1, thin, breaking_paper(net, (3, 1), 1))
        self.assertIs(told, True)
        paper = breaking_paper(ALIKE, (3, 1), 3)
        self.says(True, paper, ALIKE, ALIKE, (3, 1), 3)


def near_ways(net, times, tie):
    """All ways of the net between the tie's places, within times, that go to no place twice."""
    lengths = lengths_of(net)
    waiting = [((tie[0],), 0)]
    for way, length in waiting:
        for place in net[0]:
            step = (way[-1], place)
            if way[-1] != tie[1] and place not in way and step in lengths:
                if within(length + lengths[step], times, tie[2]):
                    waiting.append((way + (place,), length + lengths[step]))
    return [way for way, length in waiting if way[-1] == tie[1]]


def other_bush(net, times, tie, many, last):
    ways = near_ways(net, times, tie)
    if not ways:
        return (way_of(net, tie[0], tie[1]), ())
    way = ways[last]
    if many == 0:
        return (way, ())
    steps = [tuple(sorted(step)) for step in zip(way, way[1:])]
    lost = [[other for other in net[1] if other[:2] == step] for step in steps]
    return (way, tuple(other_bush(less_by(net, one), times, tie, many - 1, last) for one in lost))


def other_paper(net, times, many, thin, last):
    """A paper for this thin net that is refused by no one where any is let by: by the first or the last choices."""
    paper = []
    for tie in in_order(net[1]):
        before = ahead(thin, tie)
        if tie in thin[1]:
            broken = (breakers(before, times, tie, many) or [()])[last]
            least = all_least(less_by(before, broken))
            prices = tuple(least.get((tie[1], place), 10 ** 30) for place in net[0])
            paper.append(("in", tuple(sorted(broken)), prices))
        else:
            paper.append(("out", other_bush(before, times, tie, many, last)))
    return tuple(paper)


class OtherThinNets(Answers):
    def test_a_tie_too_many_or_too_few(self):
        self.says(("in", 2), other_paper(KITE, (10 ** 6, 1), 0, KITE, 0), KITE, KITE, (10 ** 6, 1), 0)
        less = (FOUR, KITE[1][1:])
        self.says(("out", 0), other_paper(KITE, (10 ** 6, 1), 0, less, 0), less, KITE, (10 ** 6, 1), 0)


if __name__ == "__main__":
    unittest.main()
