"""A desk that is told rows and answers texts, by a keeper of its own."""

from thinnet.errors import NoRow
from thinnet.keeper import Keeper
from thinnet.least import least_thin
from thinnet.nets import is_name
from thinnet.nettexts import is_length, tie_texts
from thinnet.rooted import tree_from
from thinnet.thinning import near_way
from thinnet.ways import way_of

# By its first word, the words that a row has behind it: n for a name, l for a length.
FORMS = {
    "come": "n", "go": "n", "lay": "nnl", "take": "nn", "far": "nn", "way": "nn", "net": "", "thin": "", "places": "",
    "why": "nn", "tree": "n", "least": "",
}


def is_row(words):
    if words[0] not in FORMS or len(words) != 1 + len(FORMS[words[0]]):
        return False
    for form, word in zip(FORMS[words[0]], words[1:]):
        if not (is_length(word) if form == "l" else is_name(word)):
            return False
    return True


def by_commas(texts):
    return ", ".join(texts) if texts else "-"


def by_blanks(names):
    return " ".join(names) if names else "-"


def deed_of(keeper, words):
    if words[0] == "come":
        return keeper.come(words[1])
    if words[0] == "go":
        return keeper.go(words[1])
    if words[0] == "lay":
        return keeper.lay(words[1], words[2], int(words[3]))
    return keeper.take(words[1], words[2])


def deed_text(keeper, words):
    turned = deed_of(keeper, words)
    came = ["+" + text for text in tie_texts(turned[0])]
    went = ["-" + text for text in tie_texts(turned[1])]
    return by_commas(came + went)


def far_text(keeper, a, b):
    length = keeper.far(a, b)
    return "-" if length is None else str(length)


def way_text(keeper, a, b):
    keeper.ask_place(a)
    keeper.ask_place(b)
    return by_blanks(way_of(keeper.thin(), a, b))


def why_text(keeper, a, b):
    tie = keeper.tie_between(a, b)
    if tie in keeper.thin()[1]:
        return "in"
    return "out " + by_blanks(near_way(keeper.thin(), keeper.times, tie))


def tree_text(keeper, a):
    keeper.ask_place(a)
    return by_commas(tie_texts(tree_from(keeper.net(), a)[1]))


def least_text(keeper):
    return str(len(least_thin(keeper.net(), keeper.times)[0][1]))


def answer_between(keeper, word, a, b):
    if word == "far":
        return far_text(keeper, a, b)
    if word == "way":
        return way_text(keeper, a, b)
    return why_text(keeper, a, b)


def answer_of(keeper, words):
    if words[0] in ("come", "go", "lay", "take"):
        return deed_text(keeper, words)
    if words[0] in ("far", "way", "why"):
        return answer_between(keeper, words[0], words[1], words[2])
    if words[0] == "tree":
        return tree_text(keeper, words[1])
    if words[0] == "net":
        return by_commas(tie_texts(keeper.net()[1]))
    if words[0] == "thin":
        return by_commas(tie_texts(keeper.thin()[1]))
    if words[0] == "places":
        return by_blanks(keeper.net()[0])
    return least_text(keeper)


class Desk:
    def __init__(self, times):
        self.keeper = Keeper(times)

    def say(self, row):
        words = row.split(" ")
        if not is_row(words):
            raise NoRow("there is no such row: " + row)
        return answer_of(self.keeper, words)
