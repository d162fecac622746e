import unittest

from plainly import read_plainly
from samples import (
    ALIKE, BARE, EMPTY, KITE, LETTERS, NET, full_net, is_plain, kept_as_it_was, large_nets, mixed_numbers, ring,
    small_nets,
)
from thinnet.errors import NoLine, ThinError
from thinnet.nets import is_net
from thinnet.nettexts import read_net, shown

LINES = ["place a", "place b", "place c", "tie a b 2", "tie a c 10", "tie b c 3"]
BARE_LINES = ["place a", "place b", "place c", "place d"]


def reading(lines):
    """What read_net says: a net, or the row and the word of its refusal."""
    try:
        return read_net(lines)
    except NoLine as refused:
        return [refused.row, refused.word]


def with_line(row, line):
    return LINES[:row] + [line] + LINES[row + 1:]


class Shown(unittest.TestCase):
    def tells(self, right, net):
        told = kept_as_it_was(self, shown, net)
        self.assertEqual(told, right)
        self.assertTrue(type(told) is list and all(type(line) is str for line in told))

    def test_by_hand(self):
        self.tells([], EMPTY)
        self.tells(BARE_LINES, BARE)
        self.tells(["place a", "place b", "tie a b 1000000"], (("a", "b"), (("a", "b", 10 ** 6),)))
        self.tells(BARE_LINES + ["tie a b 2", "tie a c 4", "tie a d 6", "tie b c 3", "tie c d 4"], KITE)
        self.tells(["place abcdefgh", "place b", "place zzzzzzzz", "tie abcdefgh zzzzzzzz 1"],
                   (("abcdefgh", "b", "zzzzzzzz"), (("abcdefgh", "zzzzzzzz", 1),)))

    def test_told_lists_are_new(self):
        told = shown(KITE)
        told.append("place e")
        told[0] = ""
        self.assertEqual(shown(KITE)[:2], ["place a", "place b"])
        self.assertEqual(len(shown(KITE)), 9)

    def test_there_and_back(self):
        more = [EMPTY, BARE, NET, ALIKE, full_net(24, 60), ring(tuple("abcdef"), 10 ** 6)]
        for net in [*small_nets(), *large_nets(), *more]:
            lines = shown(net)
            self.assertEqual(len(lines), len(net[0]) + len(net[1]))
            told = kept_as_it_was(self, read_net, lines)
            self.assertEqual(told, net)
            self.assertTrue(type(told) is tuple and is_plain(told) and is_net(told))
            self.assertEqual(shown(told), lines)


class Reads(unittest.TestCase):
    def reads(self, right, lines):
        told = kept_as_it_was(self, reading, lines)
        self.assertEqual(repr(told), repr(right), lines)
        self.assertEqual(repr(read_plainly(lines)), repr(right), lines)

    def test_right(self):
        self.reads(EMPTY, [])
        self.reads(BARE, BARE_LINES)
        self.reads((("a", "b", "c"), (("a", "b", 2), ("a", "c", 10), ("b", "c", 3))), LINES)
        self.reads((("a",), ()), ["place a"])
        self.reads((("abcdefgh", "z"), (("abcdefgh", "z", 1),)), ["place abcdefgh", "place z", "tie abcdefgh z 1"])

    def test_first_words(self):
        for line in (
            "", " ", "  ", "a", "Place a", "places a", "plac a", " place a", "place,a", "net", "ties a b 2",
            "Tie a b 2", "tiea b 2",
            " tie a b 2", "2", "place\ta", "~", "-", "PLACE A", "tie,a,b,2",
        ):
            self.reads([0, 0], [line])
            for row in range(6):
                self.reads([row, 0], with_line(row, line))
            self.reads([6, 0], LINES + [line])

    def test_place_behind_a_tie(self):
        for line in ("place d", "place", "place a", "place D", "place d e", "place "):
            self.reads([4, 0], with_line(4, line))
            self.reads([6, 0], LINES + [line])

    def test_names_of_places(self):
        for name in (
            "", "A", "aB", "a1", "1", "abcdefghi", "a-b", "a_b", "a.", "~", "a,", "abcdefghijklmnop", "place", "tie",
        ):
            right = [1, 1] if name not in ("place", "tie") else (("a", name), ())
            self.reads(right, ["place a", "place " + name])
        for name, right in (("a", [1, 1]), ("b", [1, 1]), ("aa", [1, 1]), ("bz", (("by", "bz"), ())), ("bx", [1, 1])):
            self.reads(right, ["place by", "place " + name])
        self.reads([2, 1], ["place a", "place c", "place b"])
        self.reads([2, 1], ["place a", "place c", "place c"])
        self.reads([3, 1], ["place a", "place b", "place c", "place a"])
        self.reads((("a", "aa", "ab", "b"), ()), ["place a", "place aa", "place ab", "place b"])

    def test_twenty_fifth_place(self):
        lines = ["place " + letter for letter in LETTERS]
        self.reads((tuple(LETTERS[:24]), ()), lines[:24])
        self.reads([24, 0], lines[:25])
        self.reads([24, 0], lines)
        self.reads([24, 0], lines[:24] + ["place"])
        self.reads([24, 0], lines[:24] + ["place a"])
        self.reads([24, 1], lines[:24] + ["tie"])
        self.reads((tuple(LETTERS[:24]), (("a", "x", 1),)), lines[:24] + ["tie a x 1"])

    def test_sixty_first_tie(self):
        full = shown(full_net(24, 60))
        self.assertEqual(full[-1], "tie c r 1")
        self.reads([84, 0], full + ["tie c s 1"])
        self.reads([84, 0], full + ["tie"])
        self.reads([84, 0], full + ["tie a b 1"])
        self.reads([84, 0], full + ["place z"])
        self.reads([84, 0], full + [""])
        self.reads(full_net(24, 60), full)

    def test_first_end(self):
        for word in ("d", "", "A", "aa", "z", "tie", "1", "a,", "2"):
            self.reads([3, 1], with_line(3, f"tie {word} b 2"))
            self.reads([3, 1], with_line(3, f"tie {word}"))
            self.reads([3, 1], with_line(3, f"tie {word} zz 0 0 0"))
        self.reads([0, 1], ["tie a b 2"])
        self.reads([1, 1], ["place a", "tie b a 2"])

    def test_first_end_is_looked_at_by_itself_alone(self):
        # a does not come behind the tie b c, but this shows in its second end.
        lines = LINES[:3] + ["tie b c 3"]
        for line in ("tie a b 2", "tie a c 2", "tie b c 4", "tie b c 3", "tie b b 2", "tie c a 1", "tie c c 1"):
            self.reads([4, 2], lines + [line])
        # c has no greater place: it can stand, but nothing can behind it.
        for word in ("a", "b", "c", "d", ""):
            self.reads([3, 2], with_line(3, f"tie c {word} 1"))
        self.reads([3, 2], with_line(3, "tie c"))

    def test_second_end(self):
        for word in ("a", "d", "", "B", "bb", "2", "tie", "z"):
            self.reads([3, 2], with_line(3, f"tie a {word} 2"))
            self.reads([3, 2], with_line(3, f"tie a {word}"))
            self.reads([3, 2], with_line(3, f"tie a {word} x y z"))
        self.reads([4, 2], with_line(4, "tie a b 3"))
        self.reads([4, 2], with_line(4, "tie a b 2"))
        self.reads([5, 2], with_line(5, "tie a b 3"))
        self.reads([5, 2], with_line(5, "tie a c 10"))
        self.reads([5, 2], with_line(5, "tie b a 3"))
        # Behind b c nothing comes any more; with a greater length it is still between the same two places.
        self.reads([6, 2], LINES + ["tie b c 4"])

    def test_lengths(self):
        for word, right in (
            ("1", 1), ("9", 9), ("10", 10), ("999999", 999999), ("1000000", 10 ** 6), ("123456", 123456),
        ):
            self.reads((("a", "b"), (("a", "b", right),)), ["place a", "place b", "tie a b " + word])
        for word in (
            "0", "00", "01", "007", "0000001", "1000001", "1000000000", "9" * 90, "-1", "+1", "1.0", "1e3", "1_0", "",
            "x", "1a", "a1",
            "one", "0x1", "1,", "(1)", "1000000.", "-0", "10000000", "2000000",
        ):
            self.reads([2, 3], ["place a", "place b", "tie a b " + word])
            self.reads([2, 3], ["place a", "place b", "tie a b " + word + " z"])

    def test_words_too_many(self):
        for more in (" ", " b", "  ", " place b", " 2", " ~"):
            self.reads([0, 2], ["place a" + more])
            self.reads([2, 2], with_line(2, "place c" + more))
            self.reads([5, 4], with_line(5, "tie b c 3" + more))

    def test_lines_that_lack_words(self):
        self.reads([0, 1], ["place"])
        self.reads([3, 1], with_line(3, "tie"))
        self.reads([3, 2], with_line(3, "tie a"))
        self.reads([3, 3], with_line(3, "tie a b"))
        self.reads([5, 3], with_line(5, "tie b c"))

    def test_blanks_too_many(self):
        for line, word in (
            ("place  a", 1), ("place ", 1), ("place a ", 2), (" place a", 0), ("place   ", 1),
        ):
            self.reads([0, word], [line])
        for line, word in (
            ("tie  a b 2", 1), ("tie a  b 2", 2), ("tie a b  2", 3), ("tie a b 2 ", 4), (" tie a b 2", 0), ("tie ", 1),
            ("tie a ", 2),
            ("tie a b ", 3), ("tie  ", 1), ("tie    ", 1),
        ):
            self.reads([3, word], with_line(3, line))

    def test_first_line_of_several(self):
        self.reads([1, 1], ["place a", "place A", "tie a"])
        self.reads([0, 0], ["", "", ""])
        self.reads([3, 3], LINES[:3] + ["tie a b 0", "place d", ""])
        self.reads([2, 1], ["place a", "place b", "tie c c 0 0", "place"])

    def test_two_hundred_lines_of_a_hundred_signs(self):
        self.reads([0, 0], ["x" * 100] * 200)
        self.reads([0, 1], ["place " + "x" * 94] * 200)
        self.reads([1, 1], ["place a"] * 200)
        self.reads([84, 0], shown(full_net(24, 60)) + ["tie c s 1"] * 116)
        self.reads([2, 3], ["place a", "place b", "tie a b " + "1" * 92] * 60)
        self.reads([0, 0], [" " * 100])

    def test_lines_somewhat_longer(self):
        # Nothing is refused in another way, however many figures there are.
        for many in (101, 5000):
            self.reads([2, 3], ["place a", "place b", "tie a b " + "1" * many])
            self.reads([0, 1], ["place " + "a" * many])
            self.reads([0, 0], ["a" * many])

    def test_class_of_the_refusal(self):
        with self.assertRaises(NoLine) as caught:
            read_net(["place"])
        self.assertEqual(type(caught.exception).__mro__[1], ThinError)
        self.assertEqual((caught.exception.row, caught.exception.word), (0, 1))

    def test_words_mixed_up(self):
        numbers = mixed_numbers(7)
        pool = ["", "place", "tie", "a", "b", "c", "d", "e", "1", "0", "1000000", "1000001", "01", "A", "abcdefghi"]
        told = {}
        for count in range(4000):
            lines = [line.split(" ") for line in LINES]
            for change in range(1 + next(numbers) % 2):
                row = lines[next(numbers) % len(lines)]
                at = next(numbers) % (len(row) + 1)
                word = pool[next(numbers) % len(pool)]
                kind = next(numbers) % 4
                row[at:] = {0: [word], 1: [word] + row[at:], 2: [word] + row[at + 1:], 3: row[at + 1:]}[kind]
            if next(numbers) % 4 == 0:
                one = next(numbers) % len(lines)
                lines[one], lines[-1] = lines[-1], lines[one]
            texts = [" ".join(row) for row in lines]
            right = read_plainly(texts)
            self.reads(right, texts)
            told[right[1] if type(right) is list else "net"] = True
        self.assertEqual(set(told), {0, 1, 2, 3, 4, "net"})

    def test_asked_again(self):
        lines = list(LINES)
        self.reads([6, 0], lines + [""])
        first = read_net(lines)
        lines.append("place z")
        lines[0] = "place b"
        self.assertEqual(first[0], ("a", "b", "c"))
        self.reads(first, LINES)


if __name__ == "__main__":
    unittest.main()
