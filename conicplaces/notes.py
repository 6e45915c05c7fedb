"""Texts of sums: shown and read."""

from conicplaces.errors import NoText

FIGURES = "0123456789"
LETTERS = ("xx", "yy", "zz", "yz", "xz", "xy")
END = " = 0"
NOUGHTS = "0 = 0"


def show_sum(Q):
    shown = "".join([show_term(coefficient, letters) for coefficient, letters in zip(Q, LETTERS) if coefficient != 0])
    if shown == "":
        return NOUGHTS
    ahead = "-" if shown.startswith(" - ") else ""
    return ahead + shown[3:] + END


def show_term(coefficient, letters):
    sign = " - " if coefficient < 0 else " + "
    size = abs(coefficient)
    return f"{sign}{letters}" if size == 1 else f"{sign}{size} {letters}"


def read_sum(text):
    if not isinstance(text, str) or not text.endswith(END):
        raise NoText("a sum's text ends with = 0")
    if text == NOUGHTS:
        return tuple([0 for letters in LETTERS])
    coefficients = {}
    for words in terms_of(text[:-len(END)]):
        letters = words[-1]
        if letters not in LETTERS or letters in coefficients:
            raise NoText("a term ends with two letters, and no other term with the same two")
        coefficients[letters] = read_coefficient(words)
    return tuple([coefficients.get(letters, 0) for letters in LETTERS])


# Each term as its words, its sign being the first. Only the first term's sign is written otherwise: straight ahead of
# it, or not at all.
def terms_of(shown):
    words = ["-"] + shown[1:].split(" ") if shown.startswith("-") else ["+"] + shown.split(" ")
    terms = []
    for word in words:
        if word in ("+", "-"):
            terms.append([])
        terms[-1].append(word)
    return terms


def read_coefficient(words):
    size = 1 if len(words) == 2 else read_size(words[1:-1])
    return -size if words[0] == "-" else size


def read_size(words):
    if len(words) != 1 or not are_figures(words[0], 6) or words[0] in ("0", "1"):
        raise NoText("a coefficient is told by one to six figures; 0 and 1 are left out")
    return int(words[0])


# Python itself reads more as a whole number: blanks and line ends beside it, a plus, noughts ahead,
# figures of other scripts.
def are_figures(word, most):
    if not 1 <= len(word) <= most or not all([sign in FIGURES for sign in word]):
        return False
    return word == "0" or word[0] != "0"
