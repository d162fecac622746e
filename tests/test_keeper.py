import unittest
from itertools import permutations

from plainly import all_least, in_order, judged_greedy, rank, thinned_plainly
from samples import (
    ALIKE, EMPTY, KITE, LETTERS, NET, SOME_TIMES, full_net, is_plain, large_nets, mixed_net, mixed_numbers, small_nets,
)
from thinnet.errors import NoLine, NoPlace, NoTie, ThinError, TooMany, Twice
from thinnet.keeper import Keeper, taken_up
from thinnet.nets import is_net
from thinnet.nettexts import read_net, shown
from thinnet.thinning import greedy_paper

REFUSALS = (Twice, TooMany, NoPlace, NoTie)


def deed(keeper, word, *things):
    """What this deed tells, or the class of its refusal."""
    try:
        return getattr(keeper, word)(*things)
    except ThinError as refused:
        return type(refused)


class Model:
    """A keeper told once more: the places and ties as they are, and what each deed asks of them."""

    def __init__(self, times):
        self.times = times
        self.places = set()
        self.ties = {}

    def net(self):
        ties = [(a, b, length) for (a, b), length in self.ties.items()]
        return (tuple(sorted(self.places)), tuple(sorted(ties)))

    def thin(self):
        return thinned_plainly(self.net(), self.times)

    def refusal(self, word, a, b=None, length=None):
        ends = (min(a, b), max(a, b)) if b else None
        dues = {
            "come": [(a in self.places, Twice), (len(self.places) >= 24, TooMany)],
            "go": [(a not in self.places, NoPlace)],
            "lay": [(not {a, b} <= self.places, NoPlace), (a == b, NoTie),
                    (ends not in self.ties and len(self.ties) >= 60, TooMany)],
            "take": [(not {a, b} <= self.places, NoPlace), (ends not in self.ties, NoTie)],
        }
        return next((refused for due, refused in dues[word] if due), None)

    def do(self, word, a, b=None, length=None):
        ends = (min(a, b), max(a, b)) if b else None
        if word == "come":
            self.places.add(a)
        if word == "go":
            self.places.remove(a)
            self.ties = {pair: length for pair, length in self.ties.items() if a not in pair}
        if word == "lay":
            self.ties[ends] = length
        if word == "take":
            self.ties.pop(ends)


class Keepers(unittest.TestCase):
    def looks_like(self, keeper, net, thin):
        self.assertEqual((keeper.net(), keeper.thin()), (net, thin))
        self.assertTrue(is_net(keeper.net()) and is_plain(keeper.net()))
        self.assertTrue(is_net(keeper.thin()) and is_plain(keeper.thin()))
        self.assertEqual(keeper.lines(), shown(net))

    def is_far(self, keeper):
        least = all_least(keeper.thin())
        for a in keeper.net()[0]:
            for b in keeper.net()[0]:
                told = keeper.far(a, b)
                self.assertEqual(told, least.get((a, b)))
                self.assertIn(type(told), (int, type(None)))

    def told_right(self, keeper, model, word, *things):
        """The deed is done by both, and what it tells and leaves behind is held against the model."""
        net = model.net()
        thin = model.thin()
        refusal = model.refusal(word, *things)
        told = deed(keeper, word, *things)
        if refusal is not None:
            self.assertIs(told, refusal, (word, things))
            self.looks_like(keeper, net, thin)
            return
        model.do(word, *things)
        came = in_order(set(model.thin()[1]) - set(thin[1]))
        went = in_order(set(thin[1]) - set(model.thin()[1]))
        self.assertEqual(told, (came, went), (word, things))
        self.assertEqual([type(told), type(told[0]), type(told[1])], [tuple, list, list])
        self.assertTrue(is_plain(tuple(told[0])) and is_plain(tuple(told[1])))
        self.looks_like(keeper, model.net(), model.thin())
        self.turns_nothing_ahead(net, thin, model, word, things, told)

    def turns_nothing_ahead(self, net, thin, model, word, things, told):
        """What point 56 says."""
        changed = set(net[1]) ^ set(model.net()[1])
        turned = told[0] + told[1]
        if not changed:
            self.assertEqual(turned, [])
        for tie in turned:
            self.assertGreaterEqual(rank(tie), min(rank(other) for other in changed))
        joined = [tie[:2] for tie in net[1]]
        if word == "lay" and tuple(sorted(things[:2])) not in joined and not changed & set(model.thin()[1]):
            self.assertEqual(turned, [])
        if word == "take" and not changed & set(thin[1]):
            self.assertEqual(turned, [])


class ByHand(Keepers):
    def kite(self, times=(3, 2)):
        keeper = Keeper(times)
        for place in "abcd":
            keeper.come(place)
        for a, b, length in KITE[1]:
            keeper.lay(a, b, length)
        return keeper

    def says(self, right, keeper, word, *things):
        self.assertEqual(deed(keeper, word, *things), right, (word, things))

    def test_a_new_keeper(self):
        for times in SOME_TIMES:
            keeper = Keeper(times)
            self.looks_like(keeper, EMPTY, EMPTY)
            self.assertEqual(keeper.lines(), [])

    def test_places_come_and_go(self):
        keeper = Keeper((1, 1))
        for name in ("m", "abcdefgh", "zz", "a"):
            self.says(([], []), keeper, "come", name)
        places = ("a", "abcdefgh", "m", "zz")
        self.looks_like(keeper, (places, ()), (places, ()))
        self.says(([], []), keeper, "go", "m")
        self.looks_like(keeper, (("a", "abcdefgh", "zz"), ()), (("a", "abcdefgh", "zz"), ()))
        self.says(([], []), keeper, "come", "m")
        self.looks_like(keeper, (places, ()), (places, ()))

    def test_ties_are_laid(self):
        keeper = Keeper((3, 2))
        for place in "dcba":
            keeper.come(place)
        self.says(([("a", "b", 2)], []), keeper, "lay", "a", "b", 2)
        self.says(([("a", "c", 4)], []), keeper, "lay", "c", "a", 4)
        self.says(([("a", "d", 6)], []), keeper, "lay", "d", "a", 6)
        # Now abc of 5 is within 3/2 of 4.
        self.says(([("b", "c", 3)], [("a", "c", 4)]), keeper, "lay", "b", "c", 3)
        # abcd of 9 is just within 3/2 of 6.
        self.says(([("c", "d", 4)], [("a", "d", 6)]), keeper, "lay", "d", "c", 4)
        thin = (KITE[0], (("a", "b", 2), ("b", "c", 3), ("c", "d", 4)))
        self.looks_like(keeper, KITE, thin)
        # b d is left out at once: nothing is turned.
        self.says(([], []), keeper, "lay", "b", "d", 100)
        self.assertEqual(keeper.thin(), thin)
        self.says(([], []), keeper, "take", "d", "b")
        self.looks_like(keeper, KITE, thin)

    def test_a_tie_laid_where_one_is_already(self):
        keeper = self.kite()
        # Of the same length nothing is turned, in either order of the places.
        for tie in KITE[1]:
            self.says(([], []), keeper, "lay", *tie)
            self.says(([], []), keeper, "lay", tie[1], tie[0], tie[2])
            self.looks_like(keeper, KITE, (KITE[0], (("a", "b", 2), ("b", "c", 3), ("c", "d", 4))))
        # Of another length it is another tie: the one goes, the other comes.
        self.says(([("a", "b", 1)], [("a", "b", 2)]), keeper, "lay", "b", "a", 1)
        # Of ac there is now abc of 7, beyond 3/2 of 4; ab goes ahead of ac in order.
        self.says(([("a", "b", 4), ("a", "c", 4)], [("a", "b", 1)]), keeper, "lay", "a", "b", 4)
        self.assertEqual(keeper.net()[1][0], ("a", "b", 4))
        self.assertEqual(len(keeper.net()[1]), 5)

    def test_a_tie_turned_out_by_its_own_new_length(self):
        keeper = self.kite()
        # Of 8, ab has acb of 7 once ac is in again.
        self.says(([("a", "c", 4)], [("a", "b", 2)]), keeper, "lay", "a", "b", 8)
        self.assertEqual(keeper.thin()[1], (("a", "c", 4), ("b", "c", 3), ("c", "d", 4)))
        # Shorter again, it comes and ac goes.
        self.says(([("a", "b", 2)], [("a", "c", 4)]), keeper, "lay", "a", "b", 2)
        self.looks_like(keeper, KITE, (KITE[0], (("a", "b", 2), ("b", "c", 3), ("c", "d", 4))))

    def test_ties_are_taken(self):
        keeper = self.kite()
        # One that was left out: nothing is turned.
        self.says(([], []), keeper, "take", "d", "a")
        self.says(([], []), keeper, "lay", "a", "d", 6)
        self.says(([("a", "c", 4)], [("b", "c", 3)]), keeper, "take", "c", "b")
        # acd of 8 is within 3/2 of 6, too.
        self.assertEqual(keeper.thin()[1], (("a", "b", 2), ("a", "c", 4), ("c", "d", 4)))
        self.says(([("a", "d", 6)], [("c", "d", 4)]), keeper, "take", "c", "d")
        self.says(([], [("a", "b", 2)]), keeper, "take", "a", "b")
        self.assertEqual(keeper.net()[1], (("a", "c", 4), ("a", "d", 6)))

    def test_a_place_goes_with_all_its_ties(self):
        keeper = self.kite()
        self.says(([("a", "d", 6)], [("b", "c", 3), ("c", "d", 4)]), keeper, "go", "c")
        self.looks_like(keeper, (("a", "b", "d"), (("a", "b", 2), ("a", "d", 6))), keeper.net())
        self.says(([], [("a", "b", 2), ("a", "d", 6)]), keeper, "go", "a")
        self.looks_like(keeper, (("b", "d"), ()), (("b", "d"), ()))
        self.says(([], []), keeper, "come", "a")
        self.looks_like(keeper, (("a", "b", "d"), ()), (("a", "b", "d"), ()))

    def test_names_that_begin_alike(self):
        keeper = Keeper((1, 1))
        for name in ("a", "aa", "ab", "b"):
            keeper.come(name)
        keeper.lay("ab", "aa", 1)
        keeper.lay("b", "ab", 1)
        self.says(([], []), keeper, "go", "a")
        self.says(([], [("ab", "b", 1)]), keeper, "go", "b")
        self.assertEqual(keeper.net(), (("aa", "ab"), (("aa", "ab", 1),)))

    def test_far(self):
        keeper = self.kite()
        for a, b, right in (("a", "d", 9), ("d", "a", 9), ("a", "c", 5), ("b", "d", 7), ("c", "c", 0)):
            self.assertEqual(keeper.far(a, b), right)
        keeper.come("e")
        self.assertIsNone(keeper.far("a", "e"))
        self.assertIsNone(keeper.far("e", "a"))
        self.assertEqual(keeper.far("e", "e"), 0)
        self.is_far(keeper)

    def test_refused(self):
        keeper = self.kite()
        keeper.take("b", "c")
        net = keeper.net()
        thin = keeper.thin()
        for refused, word, things in (
            (Twice, "come", ("a",)), (Twice, "come", ("d",)), (NoPlace, "go", ("e",)), (NoPlace, "go", ("aa",)),
            (NoPlace, "lay", ("e", "a", 1)), (NoPlace, "lay", ("a", "e", 1)), (NoPlace, "lay", ("e", "f", 1)),
            (NoPlace, "lay", ("e", "e", 1)), (NoTie, "lay", ("a", "a", 1)), (NoPlace, "take", ("e", "a")),
            (NoPlace, "take", ("a", "e")), (NoPlace, "take", ("e", "e")), (NoTie, "take", ("a", "a")),
            (NoTie, "take", ("b", "c")), (NoTie, "take", ("c", "b")), (NoTie, "take", ("b", "d")),
            (NoPlace, "far", ("e", "a")), (NoPlace, "far", ("a", "e")), (NoPlace, "far", ("e", "e")),
        ):
            self.says(refused, keeper, word, *things)
            self.looks_like(keeper, net, thin)

    def test_refused_by_a_new_keeper(self):
        keeper = Keeper((1, 1))
        deeds = [("go", "a"), ("lay", ("a", "b", 1)), ("lay", ("a", "a", 1)), ("take", "ab"), ("far", "aa")]
        for word, things in deeds:
            self.says(NoPlace, keeper, word, *things)
            self.looks_like(keeper, EMPTY, EMPTY)

    def test_refusals_stand_straight_under_the_base(self):
        for refused in REFUSALS:
            self.assertEqual(refused.__mro__[1], ThinError)

    def test_twenty_fifth_place(self):
        keeper = Keeper((1, 1))
        for letter in LETTERS[:23]:
            keeper.come(letter)
        self.says(([], []), keeper, "come", "zz")
        net = keeper.net()
        self.assertEqual(len(net[0]), 24)
        self.says(TooMany, keeper, "come", "y")
        # It is there: that is told first.
        self.says(Twice, keeper, "come", "zz")
        self.says(Twice, keeper, "come", "a")
        self.looks_like(keeper, net, net)
        self.says(([], []), keeper, "go", "a")
        self.says(([], []), keeper, "come", "y")
        self.says(TooMany, keeper, "come", "a")

    def test_sixty_first_tie(self):
        net = full_net(24, 60)
        keeper = taken_up(shown(net), (1, 1))
        self.assertEqual(keeper.net(), net)
        self.says(TooMany, keeper, "lay", "x", "w", 1)
        self.says(TooMany, keeper, "lay", "c", "s", 1)
        # What is told ahead of it comes first.
        self.says(NoPlace, keeper, "lay", "y", "a", 1)
        self.says(NoPlace, keeper, "lay", "a", "y", 1)
        self.says(NoTie, keeper, "lay", "x", "x", 1)
        self.assertEqual(keeper.net(), net)
        # Where they are joined already, it is not one more.
        # Of 2, ab has acb of 2.
        self.says(([], [("a", "b", 1)]), keeper, "lay", "b", "a", 2)
        self.assertEqual(len(keeper.net()[1]), 60)
        keeper.take("a", "b")
        self.says(([("w", "x", 1)], []), keeper, "lay", "x", "w", 1)
        self.says(TooMany, keeper, "lay", "a", "b", 1)

    def test_lengths_of_the_bounds(self):
        keeper = Keeper((1, 1))
        for name in "abc":
            keeper.come(name)
        self.says(([("a", "b", 1)], []), keeper, "lay", "a", "b", 1)
        self.says(([("b", "c", 10 ** 6)], []), keeper, "lay", "c", "b", 10 ** 6)
        self.says(([("a", "c", 10 ** 6)], []), keeper, "lay", "c", "a", 10 ** 6)
        self.assertEqual(keeper.far("b", "c"), 10 ** 6)
        wide = taken_up(keeper.lines(), (10 ** 6, 1))
        self.assertEqual(wide.thin()[1], (("a", "b", 1), ("a", "c", 10 ** 6)))
        self.assertEqual(wide.far("b", "c"), 10 ** 6 + 1)
        # Somewhat beyond is not refused.
        self.says(([("a", "b", 10 ** 6 + 1)], [("a", "b", 1)]), keeper, "lay", "a", "b", 10 ** 6 + 1)

    def test_told_lists_that_are_changed(self):
        keeper = Keeper((1, 1))
        keeper.come("a")
        keeper.come("b")
        told = keeper.lay("a", "b", 3)
        told[0].append(("a", "z", 1))
        told[1].append(("a", "y", 1))
        lines = keeper.lines()
        lines.clear()
        keeper.net()
        self.looks_like(keeper, (("a", "b"), (("a", "b", 3),)), (("a", "b"), (("a", "b", 3),)))
        self.says(([], [("a", "b", 3)]), keeper, "take", "a", "b")
        self.assertEqual(told, ([("a", "b", 3), ("a", "z", 1)], [("a", "y", 1)]))

    def test_what_was_told_stays(self):
        keeper = self.kite()
        net = keeper.net()
        thin = keeper.thin()
        lines = keeper.lines()
        told = keeper.take("b", "c")
        keeper.go("a")
        self.assertEqual(net, KITE)
        self.assertEqual(thin[1], (("a", "b", 2), ("b", "c", 3), ("c", "d", 4)))
        self.assertEqual(lines, shown(KITE))
        self.assertEqual(told, ([("a", "c", 4)], [("b", "c", 3)]))

    def test_two_keepers(self):
        one = self.kite((3, 2))
        other = self.kite((1, 1))
        self.assertEqual(other.thin(), KITE)
        one.go("a")
        self.looks_like(other, KITE, KITE)
        other.take("a", "b")
        self.assertEqual(one.net(), (("b", "c", "d"), (("b", "c", 3), ("c", "d", 4))))
        three = Keeper((3, 2))
        self.looks_like(three, EMPTY, EMPTY)


class FromAllSides(Keepers):
    def mixed_deeds(self, start, names, times, lengths, many):
        numbers = mixed_numbers(start)
        keeper = Keeper(times)
        model = Model(times)
        for count in range(many):
            word = ("come", "lay", "lay", "lay", "lay", "take", "lay", "go", "come")[next(numbers) % 9]
            a = names[next(numbers) % len(names)]
            b = names[next(numbers) % len(names)]
            length = lengths[next(numbers) % len(lengths)]
            things = {"come": (a,), "go": (a,), "lay": (a, b, length), "take": (a, b)}[word]
            self.told_right(keeper, model, word, *things)
            if count % 10 == 0:
                self.is_far(keeper)

    def test_mixed_deeds(self):
        self.mixed_deeds(1, "abcdef", (1, 1), [1, 2, 3], 250)
        self.mixed_deeds(2, "abcdef", (3, 2), range(1, 9), 250)
        self.mixed_deeds(3, "abcdefgh", (2, 1), [5], 250)
        self.mixed_deeds(4, ["a", "aa", "ab", "b", "ba"], (10 ** 6, 1), [1, 10 ** 6], 200)
        self.mixed_deeds(5, "abcd", (5, 4), range(4, 7), 250)

    def test_mixed_deeds_on_a_large_net(self):
        numbers = mixed_numbers(9)
        for net, times in ((mixed_net(3, 24, 60, [1, 2, 3]), (2, 1)), (mixed_net(5, 23, 58, range(1, 100)), (3, 2))):
            keeper = taken_up(shown(net), times)
            model = Model(times)
            model.places = set(net[0])
            model.ties = {(a, b): length for a, b, length in net[1]}
            self.looks_like(keeper, net, model.thin())
            for count in range(60):
                a, b = (LETTERS[next(numbers) % 25] for end in "ab")
                word = ("lay", "take", "lay", "lay", "come", "go")[next(numbers) % 6]
                things = {"come": (a,), "go": (a,), "lay": (a, b, 1 + next(numbers) % 9), "take": (a, b)}[word]
                self.told_right(keeper, model, word, *things)
            self.is_far(keeper)

    def test_all_orders_of_laying(self):
        for order in permutations(KITE[1]):
            keeper = Keeper((3, 2))
            model = Model((3, 2))
            for place in "abcd":
                self.told_right(keeper, model, "come", place)
            for a, b, length in order:
                self.told_right(keeper, model, "lay", a, b, length)
            self.assertEqual(keeper.net(), KITE)

    def test_each_tie_taken_and_laid_again(self):
        for net in [*small_nets(), large_nets()[6]]:
            for times in ((1, 1), (3, 2)):
                keeper = taken_up(shown(net), times)
                thin = keeper.thin()
                for a, b, length in net[1]:
                    came, went = keeper.take(a, b)
                    self.assertEqual(keeper.lay(b, a, length), (went, came))
                    self.looks_like(keeper, net, thin)

    def test_its_thin_net_has_a_greedy_paper(self):
        for net in small_nets():
            keeper = taken_up(shown(net), (3, 2))
            self.assertIs(judged_greedy(net, (3, 2), keeper.thin(), greedy_paper(keeper.net(), (3, 2))), True)


class TakenUp(Keepers):
    def test_laid_down_and_taken_up_again(self):
        for net in [*small_nets(), *large_nets(), EMPTY, NET, ALIKE]:
            for times in ((1, 1), (3, 2), (10 ** 6, 1)):
                lines = shown(net)
                keeper = taken_up(lines, times)
                self.assertIsInstance(keeper, Keeper)
                self.looks_like(keeper, net, thinned_plainly(net, times))
                # With other times it is another thin net of the same net.
                other = taken_up(keeper.lines(), (2, 1))
                self.looks_like(other, net, thinned_plainly(net, (2, 1)))
                self.assertEqual(other.lines(), lines)

    def test_it_goes_on_as_the_one_laid_down(self):
        keeper = taken_up(shown(KITE), (3, 2))
        other = taken_up(keeper.lines(), (3, 2))
        for word, things in (
            ("lay", ("b", "d", 1)), ("take", ("c", "b")), ("go", ("d",)), ("come", ("e",)), ("lay", ("e", "a", 9)),
            ("go", ("a",)),
        ):
            self.assertEqual(deed(keeper, word, *things), deed(other, word, *things))
            self.looks_like(other, keeper.net(), keeper.thin())

    def test_lines_are_kept_as_a_copy(self):
        lines = shown(KITE)
        keeper = taken_up(lines, (3, 2))
        self.assertEqual(lines, shown(KITE))
        lines.clear()
        self.assertEqual(keeper.lines(), shown(KITE))

    def test_refused_as_the_lines_are(self):
        for lines, row, word in (
            ([""], 0, 0), (["place"], 0, 1), (["place A"], 0, 1), (["place a", "place a"], 1, 1), (["place a b"], 0, 2),
            (["place a", "tie b a 1"], 1, 1), (["place a", "place b", "tie a a 1"], 2, 2),
            (["place a", "place b", "tie a b 0"], 2, 3), (["place a", "place b", "tie a b 1000001"], 2, 3),
            (["place a", "place b", "tie a b 1 "], 2, 4), (["place a", "place b", "tie a b 1", "place c"], 3, 0),
            (shown(full_net(24, 60)) + ["tie c s 1"], 84, 0),
        ):
            with self.assertRaises(NoLine) as caught:
                taken_up(lines, (3, 2))
            self.assertEqual((caught.exception.row, caught.exception.word), (row, word))
            with self.assertRaises(NoLine):
                read_net(lines)


if __name__ == "__main__":
    unittest.main()
