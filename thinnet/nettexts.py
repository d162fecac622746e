"""Nets as lines of words, there and back."""

from thinnet.errors import NoLine
from thinnet.nets import MOST_NUMBER, MOST_PLACES, MOST_TIES, is_name, is_number


def tie_texts(ties):
    return [f"{a} {b} {length}" for a, b, length in ties]


def shown(net):
    return ["place " + place for place in net[0]] + ["tie " + text for text in tie_texts(net[1])]


# Asked for figures ahead of int, which would also read signs, blanks and figures of other scripts.
def is_length(word):
    if word == "" or word[0] == "0" or len(word) > len(str(MOST_NUMBER)):
        return False
    return all([sign in "0123456789" for sign in word]) and is_number(int(word))


# The faults below are told as the number of the first word that can't stand there, or None where
# there is none. Where a word is lacking, this is its number, and so how many words the line has.
def place_fault(words, places, ties):
    if ties or len(places) == MOST_PLACES:
        return 0
    if len(words) < 2 or not is_name(words[1]):
        return 1
    if places and words[1] <= places[-1]:
        return 1
    return 2 if len(words) > 2 else None


def is_second_end(a, b, places, ties):
    if b not in places or b <= a:
        return False
    return not ties or (a, b) > ties[-1][:2]


def tie_fault(words, places, ties):
    if len(ties) == MOST_TIES:
        return 0
    if len(words) < 2 or words[1] not in places:
        return 1
    if len(words) < 3 or not is_second_end(words[1], words[2], places, ties):
        return 2
    if len(words) < 4 or not is_length(words[3]):
        return 3
    return 4 if len(words) > 4 else None


def line_fault(words, places, ties):
    if words[0] == "place":
        return place_fault(words, places, ties)
    return tie_fault(words, places, ties) if words[0] == "tie" else 0


def read_net(lines):
    places = []
    ties = []
    for row, line in enumerate(lines):
        words = line.split(" ")
        fault = line_fault(words, places, ties)
        if fault is not None:
            raise NoLine(row, fault)
        if words[0] == "place":
            places.append(words[1])
        else:
            ties.append((words[1], words[2], int(words[3])))
    return (tuple(places), tuple(ties))
