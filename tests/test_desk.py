import unittest

from plainly import all_least, is_tree_plainly, least_many, thinned_plainly, way_length, within
from samples import ALIKE, EMPTY, KITE, LETTERS, SOME_TIMES, full_net, mixed_net, mixed_numbers, ring, small_nets
from thinnet.desk import Desk
from thinnet.errors import NoPlace, NoRow, NoTie, ThinError, TooMany, Twice
from thinnet.keeper import Keeper
from thinnet.nets import only

KITE_ROWS = ["come a", "come b", "come c", "come d", "lay a b 2", "lay a c 4", "lay a d 6", "lay b c 3", "lay c d 4"]
ASKING = ["far a b", "way a b", "net", "thin", "places", "why a b", "tree a", "least"]


def saying(desk, row):
    """What the desk answers, or the class of its refusal."""
    try:
        return desk.say(row)
    except ThinError as refused:
        return type(refused)


def desk_of(net, times):
    desk = Desk(times)
    for place in net[0]:
        desk.say("come " + place)
    for a, b, length in net[1]:
        desk.say(f"lay {a} {b} {length}")
    return desk


def ties_of(text):
    """The ties that such a text tells."""
    words = [] if text == "-" else [part.split(" ") for part in text.split(", ")]
    return tuple((a, b, int(length)) for a, b, length in words)


class Desks(unittest.TestCase):
    def says(self, right, desk, row):
        told = saying(desk, row)
        self.assertEqual(told, right, row)
        self.assertTrue(type(told) is str or told is right, row)

    def stands(self, desk):
        return [saying(desk, row) for row in ("places", "net", "thin")]


class ByHand(Desks):
    def test_a_new_desk(self):
        for times in SOME_TIMES:
            desk = Desk(times)
            for row in ("net", "thin", "places"):
                self.says("-", desk, row)
            self.says("0", desk, "least")

    def test_kite(self):
        desk = Desk((3, 2))
        answers = ["-", "-", "-", "-", "+a b 2", "+a c 4", "+a d 6", "+b c 3, -a c 4", "+c d 4, -a d 6"]
        for row, right in zip(KITE_ROWS, answers):
            self.says(right, desk, row)
        for row, right in (
            ("net", "a b 2, a c 4, a d 6, b c 3, c d 4"), ("thin", "a b 2, b c 3, c d 4"), ("places", "a b c d"),
            ("far a d", "9"), ("far d a", "9"), ("far b b", "0"), ("way a d", "a b c d"), ("way d a", "d c b a"),
            ("way b b", "b"), ("why a b", "in"), ("why b a", "in"), ("why a c", "out a b c"), ("why c a", "out a b c"),
            ("why a d", "out a b c d"), ("why d a", "out a b c d"), ("least", "3"), ("tree a", "a b 2, a c 4, a d 6"),
            ("tree d", "a d 6, b c 3, c d 4"), ("tree b", "a b 2, b c 3, c d 4"), ("tree c", "a c 4, b c 3, c d 4"),
            ("lay c a 4", "-"), ("lay b a 8", "+a c 4, -a b 2"), ("why a b", "out a c b"),
            ("lay b a 2", "+a b 2, -a c 4"),
            ("take d a", "-"), ("lay d a 6", "-"), ("take c b", "+a c 4, -b c 3"), ("go a", "-a b 2, -a c 4"),
            ("net", "c d 4"), ("thin", "c d 4"), ("places", "b c d"), ("far b c", "-"), ("way b c", "-"),
            ("tree b", "-"),
            ("tree c", "c d 4"), ("least", "1"), ("go c", "-c d 4"), ("net", "-"), ("thin", "-"), ("places", "b d"),
            ("go b", "-"), ("go d", "-"), ("places", "-"),
        ):
            self.says(right, desk, row)

    def test_several_turned_at_once(self):
        desk = desk_of(KITE, (3, 2))
        self.says("+a d 6, -b c 3, -c d 4", desk, "go c")
        self.says("-a b 2, -a d 6", desk, "go a")
        # In order is by length: a d of 6 behind c d of 4, and of 10 behind 9.
        desk = desk_of((("a", "b", "c"), (("a", "b", 10), ("a", "c", 9))), (1, 1))
        self.says("-a c 9, -a b 10", desk, "go a")
        desk = desk_of((("a", "b", "c"), (("a", "b", 10), ("a", "c", 9))), (1, 1))
        self.says("a b 10, a c 9", desk, "net")
        self.says("a b 10, a c 9", desk, "thin")
        self.says("a b 10, a c 9", desk, "tree a")

    def test_names_and_lengths_of_the_bounds(self):
        desk = Desk((1, 1))
        for row, right in (
            ("come abcdefgh", "-"), ("come z", "-"), ("lay z abcdefgh 1000000", "+abcdefgh z 1000000"),
            ("far z abcdefgh", "1000000"), ("way z abcdefgh", "z abcdefgh"),
            ("lay abcdefgh z 1", "+abcdefgh z 1, -abcdefgh z 1000000"), ("net", "abcdefgh z 1"),
            ("places", "abcdefgh z"),
            ("why z abcdefgh", "in"), ("tree z", "abcdefgh z 1"), ("take z abcdefgh", "-abcdefgh z 1"),
        ):
            self.says(right, desk, row)

    def test_names_like_words_of_rows(self):
        desk = Desk((1, 1))
        for row, right in (
            ("come come", "-"), ("come net", "-"), ("lay net come 7", "+come net 7"), ("places", "come net"),
            ("far come net", "7"),
            ("way net come", "net come"), ("go net", "-come net 7"), ("net", "-"),
        ):
            self.says(right, desk, row)

    def test_refused_as_the_keeper_is(self):
        desk = desk_of(KITE, (3, 2))
        desk.say("take b c")
        stands = self.stands(desk)
        for refused, row in (
            (Twice, "come a"), (NoPlace, "go e"), (NoPlace, "lay e a 1"), (NoPlace, "lay a e 1"),
            (NoPlace, "lay e e 1"),
            (NoTie, "lay a a 1"), (NoPlace, "take e a"), (NoPlace, "take a e"), (NoPlace, "take e e"),
            (NoTie, "take a a"),
            (NoTie, "take b c"), (NoTie, "take d b"), (NoPlace, "far e a"), (NoPlace, "far a e"), (NoPlace, "far e e"),
            (NoPlace, "way e a"), (NoPlace, "way a e"), (NoPlace, "way e e"), (NoPlace, "why e a"),
            (NoPlace, "why a e"),
            (NoPlace, "why e e"), (NoTie, "why a a"), (NoTie, "why b c"), (NoTie, "why d b"), (NoPlace, "tree e"),
        ):
            self.says(refused, desk, row)
            self.assertEqual(self.stands(desk), stands)

    def test_no_row(self):
        desk = desk_of(KITE, (3, 2))
        stands = self.stands(desk)
        for row in (
            "", " ", "  ", "a", "come", "go", "lay", "take", "far", "way", "why", "tree", "come ", "go ", "tree ",
            "Come e", "COME e",
            "comes e", " come e", "come  e", "come e ", "come e f", "come E", "come e1", "come 1", "come abcdefghi",
            "come e,", "come -",
            "go A", "go a b", "go abcdefghi", "go  a", "lay a", "lay a b", "lay a b 1 2", "lay a b 0", "lay a b 01",
            "lay a b 00",
            "lay a b -1", "lay a b +1", "lay a b 1.0", "lay a b 1000001", "lay a b x", "lay a b ", "lay a b 1 ",
            "lay a  b 1",
            "lay  a b 1", "lay a b  1", "lay a b 1e3", "lay a b 1_0", "lay A b 1", "lay a B 1", "lay a b c",
            "lay 1 a b", "lay a 1 b",
            "lay a b " + "9" * 80, "take a", "take a b c", "take A b", "take a B", "take a b ", "take a  b",
            "take a abcdefghi", "take ab",
            "far a", "far a b c", "far a B", "far A b", "far a ", "far  a", "far a b ", "way a", "way a b c",
            "way A b", "way a 1",
            "way a b ", "why a", "why a b c", "why A b", "why a B", "why a b ", "why", "tree a b", "tree A", "tree a ",
            "tree  a",
            "tree 1", "net ", " net", "net a", "Net", "nets", "thin ", "thin a", "thins", "places ", "places a",
            "place", "place a",
            "least ", "least a", "leasts", "net net", "tie a b 2", "lines", "help", "~", "-", "come,e", "net,thin",
            "take\ta b", "say net",
        ):
            self.says(NoRow, desk, row)
            self.assertEqual(self.stands(desk), stands)

    def test_no_row_ahead_of_all_else(self):
        desk = Desk((1, 1))
        for row in (
            "go zz1", "lay e f 0", "lay e e 0", "lay e e", "take e e e", "far e 1", "way e", "why e", "tree e e",
            "come abcdefghi",
            "lay a a 1000001", "take a A", "go A",
        ):
            self.says(NoRow, desk, row)
        # Filled up to the last place and the last tie.
        desk = desk_of(full_net(24, 60), (1, 1))
        for row in ("come y1", "come", "come a a", "lay x w 0", "lay x w", "lay w w 00", "least ", "least least"):
            self.says(NoRow, desk, row)
        for row in ("come y", "lay x w 1", "least"):
            self.says(TooMany, desk, row)

    def test_refusals_stand_straight_under_the_base(self):
        for refused in (NoRow, NoPlace, NoTie, TooMany, Twice):
            self.assertEqual(refused.__mro__[1], ThinError)

    def test_twenty_fifth_place_and_sixty_first_tie(self):
        desk = desk_of(full_net(24, 60), (1, 1))
        stands = self.stands(desk)
        for refused, row in (
            (TooMany, "come y"), (Twice, "come a"), (TooMany, "lay x w 1"), (NoTie, "lay x x 1"),
            (NoPlace, "lay x y 1"),
        ):
            self.says(refused, desk, row)
            self.assertEqual(self.stands(desk), stands)
        self.says("-", desk, "lay a b 1")
        self.says("-a b 1", desk, "lay a b 2")

    def test_least_of_ten_and_of_eleven_ties(self):
        desk = desk_of(full_net(5, 10), (2, 1))
        self.says("4", desk, "least")
        desk.say("come f")
        desk.say("lay a f 1")
        self.says(TooMany, desk, "least")
        self.says("-a f 1", desk, "take a f")
        self.says("4", desk, "least")
        self.says("10", desk_of(full_net(5, 10), (1, 1)), "least")
        self.says("10", desk_of(full_net(11, 10), (10 ** 6, 1)), "least")
        self.says(TooMany, desk_of(full_net(12, 11), (10 ** 6, 1)), "least")

    def test_least_is_not_the_thin_net(self):
        # The four spokes are enough, though the ring goes ahead of them in order.
        wheel = (tuple("abcde"), tuple(sorted(ring(tuple("abcd"), 9)[1] + tuple((a, "e", 10) for a in "abcd"))))
        desk = desk_of(wheel, (20, 9))
        self.says("4", desk, "least")
        self.assertEqual(len(ties_of(desk.say("thin"))), 6)

    def test_tree_goes_by_the_net(self):
        # a d is left out of the thin net, but it is the nearest way there.
        desk = desk_of(KITE, (3, 2))
        self.assertNotIn("a d 6", desk.say("thin"))
        self.assertIn("a d 6", desk.say("tree a"))

    def test_two_desks(self):
        one = desk_of(KITE, (3, 2))
        other = Desk((3, 2))
        self.says("-", other, "places")
        other.say("come z")
        self.says("a b c d", one, "places")
        self.says("z", other, "places")
        self.says("a b 2, a c 4, a d 6, b c 3, c d 4", desk_of(KITE, (1, 1)), "thin")


class FromAllSides(Desks):
    def looks_right(self, desk, net, times):
        thin = thinned_plainly(net, times)
        self.assertEqual(desk.say("places"), " ".join(net[0]) or "-")
        self.assertEqual(desk.say("net"), ", ".join(f"{a} {b} {length}" for a, b, length in net[1]) or "-")
        self.assertEqual(desk.say("thin"), ", ".join(f"{a} {b} {length}" for a, b, length in thin[1]) or "-")
        by_thin = all_least(thin)
        by_net = all_least(net)
        for a in net[0]:
            for b in net[0]:
                self.assertEqual(desk.say(f"far {a} {b}"), str(by_thin.get((a, b), "-")))
                told = desk.say(f"way {a} {b}")
                right = by_thin.get((a, b))
                if right is None:
                    self.assertEqual(told, "-")
                else:
                    self.assertEqual(way_length(thin, a, b, tuple(told.split(" "))), right)
            tree = only(net, ties_of(desk.say(f"tree {a}")))
            self.assertEqual(desk.say(f"tree {a}"), ", ".join(f"{x} {y} {length}" for x, y, length in tree[1]) or "-")
            self.assertTrue(is_tree_plainly(net, a, tree))
            for b in net[0]:
                self.assertEqual(all_least(tree).get((a, b)), by_net.get((a, b)))
        for a, b, length in net[1]:
            for row in (f"why {a} {b}", f"why {b} {a}"):
                self.is_why(desk.say(row), thin, times, (a, b, length))
        if len(net[1]) <= 10:
            self.assertEqual(desk.say("least"), str(least_many(net, times)))

    def is_why(self, told, thin, times, tie):
        if tie in thin[1]:
            self.assertEqual(told, "in")
            return
        words = told.split(" ")
        length = way_length(thin, tie[0], tie[1], tuple(words[1:]))
        self.assertEqual(words[0], "out")
        self.assertTrue(length is not None and within(length, times, tie[2]))

    def test_nets_of_all_sorts(self):
        for net in [*small_nets(), EMPTY, ALIKE, mixed_net(3, 24, 60, [1, 2, 3]), mixed_net(7, 12, 40, range(1, 30))]:
            for times in ((1, 1), (3, 2), (10 ** 6, 1)):
                self.looks_right(desk_of(net, times), net, times)

    def test_beside_a_keeper(self):
        numbers = mixed_numbers(11)
        desk = Desk((3, 2))
        keeper = Keeper((3, 2))
        for count in range(600):
            a, b = (LETTERS[next(numbers) % 7] for end in "ab")
            length = 1 + next(numbers) % 12
            word = ("come", "lay", "lay", "lay", "take", "go", "lay")[next(numbers) % 7]
            things = {"come": (a,), "go": (a,), "lay": (a, b, length), "take": (a, b)}[word]
            told = saying(desk, " ".join([word, *map(str, things)]))
            try:
                came, went = getattr(keeper, word)(*things)
                texts = [f"+{x} {y} {length}" for x, y, length in came]
                texts += [f"-{x} {y} {length}" for x, y, length in went]
                right = ", ".join(texts) or "-"
            except ThinError as refused:
                right = type(refused)
            self.assertEqual(told, right)
            if count % 60 == 0:
                self.looks_right(desk, keeper.net(), (3, 2))

    def test_asked_again(self):
        desk = desk_of(KITE, (3, 2))
        first = [desk.say(row) for row in ASKING]
        self.assertEqual([desk.say(row) for row in ASKING], first)


if __name__ == "__main__":
    unittest.main()
