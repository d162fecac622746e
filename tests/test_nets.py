import unittest
from itertools import permutations

from samples import EMPTY, LETTERS, NET, STRANGE, full_net, kept_as_it_was, spoiled
from thinnet.nets import is_name, is_net, is_thin, is_times, left_out, only, order_of, ties_at, total


class Telling(unittest.TestCase):
    def tells(self, ask, right, *things):
        told = kept_as_it_was(self, ask, *things)
        self.assertIs(told, right, repr(things)[:200])


class Names(Telling):
    def test_names(self):
        for name in ("a", "z", "m", "az", "abcdefgh", "zzzzzzzz", "place"):
            self.tells(is_name, True, name)

    def test_too_short_or_too_long(self):
        for text in ("", "abcdefghi", "a" * 100):
            self.tells(is_name, False, text)

    def test_each_other_sign_at_each_place(self):
        others = [chr(code) for code in range(ord(" "), ord("~") + 1) if chr(code) not in LETTERS]
        self.assertEqual(len(others), 95 - 26)
        for sign in others:
            for text in (sign, sign + "b", "a" + sign, "a" + sign + "b"):
                self.tells(is_name, False, text)

    def test_each_letter(self):
        for sign in LETTERS:
            self.tells(is_name, True, sign)

    def test_any_plain_thing(self):
        for thing in STRANGE:
            self.tells(is_name, thing in ("a", "abcdefgh"), thing)
        for thing in (("a",), ["a"], ("a", "b"), list("abc")):
            self.tells(is_name, False, thing)


class Times(Telling):
    def test_times(self):
        for thing in ((1, 1), (2, 1), (3, 2), (10 ** 6, 1), (10 ** 6, 10 ** 6), (10 ** 6, 10 ** 6 - 1)):
            self.tells(is_times, True, thing)

    def test_top_below_bottom(self):
        for thing in ((1, 2), (2, 3), (10 ** 6 - 1, 10 ** 6), (1, 10 ** 6)):
            self.tells(is_times, False, thing)

    def test_beyond_the_bounds(self):
        for thing in ((0, 0), (1, 0), (10 ** 6 + 1, 1), (10 ** 6 + 1, 10 ** 6 + 1), (-1, -1), (1, -1), (10 ** 39, 1)):
            self.tells(is_times, False, thing)

    def test_wrong_kinds(self):
        for thing in spoiled((3, 2)) + spoiled((1, 1)):
            self.tells(is_times, False, thing)
        for thing in ((), (1,), (2, 1, 1), [2, 1], "21"):
            self.tells(is_times, False, thing)

    def test_any_plain_thing(self):
        for thing in STRANGE:
            self.tells(is_times, False, thing)


class Nets(Telling):
    def test_nets(self):
        for net in (NET, EMPTY, (("a",), ()), (("a", "b"), ()), (("a", "b"), (("a", "b", 1),))):
            self.tells(is_net, True, net)

    def test_rising_as_texts(self):
        self.tells(is_net, True, (("a", "aa", "b"), (("a", "aa", 1), ("a", "b", 1), ("aa", "b", 1))))
        self.tells(is_net, False, (("a", "b", "aa"), ()))

    def test_how_many_places(self):
        self.tells(is_net, True, full_net(24, 0))
        self.tells(is_net, False, full_net(25, 0))

    def test_how_many_ties(self):
        self.tells(is_net, True, full_net(24, 60))
        self.tells(is_net, False, full_net(24, 61))
        self.tells(is_net, True, full_net(12, 60))
        self.tells(is_net, False, full_net(12, 61))

    def test_places_not_rising(self):
        for places in (("b", "a"), ("a", "a"), ("a", "c", "b"), ("a", "b", "b")):
            self.tells(is_net, False, (places, ()))

    def test_places_that_are_no_names(self):
        for place in ("", "abcdefghi", "A", "a1"):
            self.tells(is_net, False, ((place,), ()))
        self.tells(is_net, True, (("abcdefgh",), ()))

    def test_lengths(self):
        for length in (1, 2, 10 ** 6 - 1, 10 ** 6):
            self.tells(is_net, True, (("a", "b"), (("a", "b", length),)))
        for length in (0, -1, 10 ** 6 + 1, 10 ** 39, True, False, None, "1", (1,), [1]):
            self.tells(is_net, False, (("a", "b"), (("a", "b", length),)))

    def test_tie_the_wrong_way_about_or_of_one_place(self):
        self.tells(is_net, False, (("a", "b"), (("b", "a", 1),)))
        self.tells(is_net, False, (("a", "b"), (("a", "a", 1),)))

    def test_ties_not_rising(self):
        ties = (("a", "b", 3), ("a", "c", 2), ("b", "c", 1))
        for mixed in permutations(ties):
            self.tells(is_net, mixed == ties, (("a", "b", "c"), mixed))

    def test_two_ties_between_the_same_two_places(self):
        for lengths in ((1, 1), (1, 2), (2, 1)):
            ties = tuple(("a", "b", length) for length in lengths)
            self.tells(is_net, False, (("a", "b"), ties))
        self.tells(is_net, False, (("a", "b", "c"), (("a", "b", 1), ("a", "c", 1), ("a", "c", 2), ("b", "c", 1))))

    def test_tie_of_no_place_of_the_net(self):
        for a, b in (("a", "z"), ("aa", "b"), ("x", "y")):
            self.tells(is_net, False, (("a", "b"), ((a, b, 1),)))
        self.tells(is_net, False, ((), (("a", "b", 1),)))

    def test_wrong_kinds(self):
        for net in (NET, EMPTY, (("a", "b"), (("a", "b", 1),))):
            for thing in spoiled(net):
                self.tells(is_net, False, thing)
        for thing in ((), (("a",),), (("a",), (), ()), [("a",), ()]):
            self.tells(is_net, False, thing)

    def test_any_plain_thing(self):
        for thing in STRANGE:
            self.tells(is_net, False, thing)


class Order(unittest.TestCase):
    def test_length_then_a_then_b(self):
        right = [("b", "c", 1), ("a", "c", 2), ("a", "d", 2), ("b", "d", 2), ("a", "b", 10)]
        for mixed in permutations(right):
            self.assertEqual(kept_as_it_was(self, order_of, list(mixed)), right)
            self.assertEqual(order_of(mixed), right)

    def test_lengths_go_as_numbers(self):
        ties = [("a", "b", 10 ** 6), ("a", "c", 9), ("b", "c", 10)]
        self.assertEqual(order_of(ties), [("a", "c", 9), ("b", "c", 10), ("a", "b", 10 ** 6)])

    def test_none_and_one(self):
        self.assertEqual(order_of(()), [])
        self.assertEqual(order_of([]), [])
        self.assertEqual(order_of((("a", "b", 1),)), [("a", "b", 1)])

    def test_told_list_is_the_asker_s_own(self):
        ties = [("a", "b", 1), ("a", "c", 2)]
        told = order_of(ties)
        self.assertIs(type(told), list)
        told.clear()
        self.assertEqual(ties, [("a", "b", 1), ("a", "c", 2)])
        self.assertEqual(order_of(ties), ties)
        later = order_of(ties)
        ties.clear()
        self.assertEqual(later, [("a", "b", 1), ("a", "c", 2)])


class TiesAt(unittest.TestCase):
    def test_ties_at_each_place(self):
        right = {
            "a": [("b", 4), ("c", 9)],
            "b": [("a", 4), ("c", 4), ("d", 10)],
            "c": [("a", 9), ("b", 4), ("d", 3)],
            "d": [("b", 10), ("c", 3)],
            "e": [("f", 1)],
            "f": [("e", 1)],
        }
        for place in NET[0]:
            self.assertEqual(kept_as_it_was(self, ties_at, NET, place), right[place])

    def test_place_without_ties(self):
        self.assertEqual(ties_at((("a",), ()), "a"), [])
        self.assertEqual(ties_at((("a", "b", "c"), (("a", "c", 1),)), "b"), [])

    def test_other_places_rising_whatever_the_lengths(self):
        net = (("a", "aa", "b", "c"), (("a", "b", 9), ("aa", "b", 5), ("b", "c", 1)))
        self.assertEqual(ties_at(net, "b"), [("a", 9), ("aa", 5), ("c", 1)])

    def test_kinds(self):
        told = ties_at(NET, "c")
        self.assertIs(type(told), list)
        self.assertEqual({type(pair) for pair in told}, {tuple})

    def test_told_list_is_the_asker_s_own(self):
        told = ties_at(NET, "b")
        told.append("more")
        told[0] = None
        self.assertEqual(ties_at(NET, "b"), [("a", 4), ("c", 4), ("d", 10)])
        self.assertEqual(ties_at(NET, "a"), [("b", 4), ("c", 9)])


class Only(unittest.TestCase):
    def test_just_these_rising(self):
        some = (("a", "b", 4), ("b", "d", 10), ("c", "d", 3))
        for mixed in permutations(some):
            for ties in (mixed, list(mixed)):
                thin = kept_as_it_was(self, only, NET, ties)
                self.assertEqual(thin, (NET[0], some))
                self.assertTrue(is_net(thin) and is_thin(NET, thin))

    def test_all_and_none(self):
        self.assertEqual(only(NET, list(reversed(NET[1]))), NET)
        self.assertEqual(only(NET, []), (NET[0], ()))
        self.assertEqual(only(EMPTY, ()), EMPTY)

    def test_what_is_done_to_the_ties_afterwards(self):
        ties = [("c", "d", 3), ("a", "b", 4)]
        thin = only(NET, ties)
        ties.clear()
        self.assertEqual(thin, (NET[0], (("a", "b", 4), ("c", "d", 3))))


class Thin(Telling):
    def test_some_all_and_none_of_the_ties(self):
        ties = NET[1]
        for many in range(1 << len(ties)):
            some = tuple(tie for index, tie in enumerate(ties) if many >> index & 1)
            self.tells(is_thin, True, NET, (NET[0], some))
        self.tells(is_thin, True, EMPTY, EMPTY)

    def test_other_places(self):
        self.tells(is_thin, False, NET, EMPTY)
        self.tells(is_thin, False, NET, (NET[0][:5], NET[1][:5]))
        self.tells(is_thin, False, NET, (NET[0] + ("g",), NET[1]))
        self.tells(is_thin, False, EMPTY, (("a",), ()))

    def test_ties_of_its_own(self):
        for tie in (("a", "d", 1), ("a", "b", 3), ("a", "b", 5), ("e", "f", 2)):
            self.tells(is_thin, False, NET, (NET[0], (tie,)))
        self.tells(is_thin, False, (("a", "b"), ()), (("a", "b"), (("a", "b", 1),)))

    def test_no_net(self):
        self.tells(is_thin, False, NET, (NET[0], (NET[1][1], NET[1][0])))
        self.tells(is_thin, False, NET, (NET[0], (NET[1][0], NET[1][0])))

    def test_wrong_kinds(self):
        for net in (NET, (("a", "b"), (("a", "b", 1),))):
            for thing in spoiled(net):
                self.tells(is_thin, False, net, thing)

    def test_any_plain_thing(self):
        for net in (NET, EMPTY):
            for thing in STRANGE:
                self.tells(is_thin, False, net, thing)


class LeftOut(unittest.TestCase):
    def test_in_order(self):
        thin = (NET[0], (("b", "c", 4),))
        right = [("e", "f", 1), ("c", "d", 3), ("a", "b", 4), ("a", "c", 9), ("b", "d", 10)]
        self.assertEqual(kept_as_it_was(self, left_out, NET, thin), right)

    def test_none_and_all(self):
        self.assertEqual(left_out(NET, NET), [])
        self.assertEqual(left_out(EMPTY, EMPTY), [])
        self.assertEqual(left_out(NET, (NET[0], ())), order_of(NET[1]))

    def test_told_list_is_the_asker_s_own(self):
        thin = (NET[0], NET[1][:5])
        told = left_out(NET, thin)
        self.assertIs(type(told), list)
        told.clear()
        self.assertEqual(left_out(NET, thin), [("e", "f", 1)])


class Total(unittest.TestCase):
    def test_sums(self):
        self.assertEqual(kept_as_it_was(self, total, NET), 31)
        self.assertEqual(total(EMPTY), 0)
        self.assertEqual(total((("a", "b"), ())), 0)
        self.assertEqual(total(full_net(24, 60, 10 ** 6)), 60 * 10 ** 6)


if __name__ == "__main__":
    unittest.main()
