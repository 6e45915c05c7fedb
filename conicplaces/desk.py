"""The desk: it keeps curves by names, and answers rows with texts."""

from conicplaces.alikes import alike_by
from conicplaces.curves import bad_of, point_or_place
from conicplaces.errors import NoName, NoRow
from conicplaces.meets import line_met
from conicplaces.notes import are_figures, read_sum, show_sum
from conicplaces.pencils import numbers_of, point_by
from conicplaces.sums import size_of

SMALL = "abcdefghijklmnopqrstuvwxyz"
# How many names and how many numbers stand behind a row's first word. (A row `curve` has a text behind its name.)
ROWS = {"drop": (1, 0), "show": (1, 0), "size": (1, 0), "point": (1, 0), "bad": (1, 0), "next": (1, 5), "pair": (1, 6),
        "met": (1, 3), "alike": (2, 0)}


class Desk:
    def __init__(self):
        self.curves = {}

    def say(self, row):
        if not isinstance(row, str):
            raise NoRow("a row is a text")
        words = row.split(" ")
        if words[0] == "curve" and len(words) > 2:
            return self.keep(words[1], " ".join(words[2:]))
        names = names_of_row(words)
        numbers = [read_whole(word) for word in words[1 + len(names):]]
        totals = [self.kept(name) for name in names]
        if words[0] == "drop":
            self.curves.pop(names[0])
            return "ok"
        return answer_to(words[0], totals, numbers)

    def keep(self, name, text):
        if not 1 <= len(name) <= 8 or not all([sign in SMALL for sign in name]):
            raise NoName("a name is a word of one to eight small letters")
        self.curves[name] = read_sum(text)
        return "ok"

    def kept(self, name):
        if name not in self.curves:
            raise NoName("no curve has this name")
        return self.curves[name]


def names_of_row(words):
    if words[0] not in ROWS:
        raise NoRow("no row begins with this word")
    counts = ROWS[words[0]]
    if len(words) != 1 + counts[0] + counts[1]:
        raise NoRow("the row has a word too many or too few")
    return words[1:1 + counts[0]]


def read_whole(word):
    figures = word[1:] if word.startswith("-") else word
    if word == "-0" or not are_figures(figures, 60):
        raise NoRow("a whole number is told by one to sixty figures")
    return int(word)


def answer_to(word, totals, numbers):
    if word == "show":
        return show_sum(totals[0])
    if word == "size":
        return str(size_of(totals[0]))
    if word == "point":
        return show_told(point_or_place(totals[0]))
    if word == "bad":
        return parted(bad_of(totals[0])) or "none"
    if word == "next":
        return parted(point_by(totals[0], tuple(numbers[:3]), numbers[3], numbers[4]))
    if word == "pair":
        return parted(numbers_of(totals[0], tuple(numbers[:3]), tuple(numbers[3:])))
    if word == "met":
        return "; ".join([parted(point) for point in line_met(totals[0], tuple(numbers))]) or "none"
    return show_told(alike_by(totals[0], totals[1]))


def show_told(told):
    if told[0] == "table":
        return told[0]
    return parted(told) if told[0] == "place" else parted([told[0]] + list(told[1]))


def parted(values):
    return " ".join([str(value) for value in values])
