import itertools
import re
import unittest

from conicplaces.errors import NoText
from conicplaces.notes import read_sum, show_sum
from trial import drawn, drawn_sum

KNOWN = {
    (-2, 1, 0, 0, 0, -13): "-2 xx + yy - 13 xy = 0",
    (2, 3, -5, 0, 0, 0): "2 xx + 3 yy - 5 zz = 0",
    (0, 0, 0, 0, 0, 0): "0 = 0",
    (1, 0, 0, 0, 0, 0): "xx = 0",
    (-1, 0, 0, 0, 0, 0): "-xx = 0",
    (0, 0, 0, 0, 0, -1): "-xy = 0",
    (0, 0, 0, 0, 0, 7): "7 xy = 0",
    (0, 0, -10, 0, 0, 0): "-10 zz = 0",
    (1, 1, 1, 1, 1, 1): "xx + yy + zz + yz + xz + xy = 0",
    (-1, -1, -1, -1, -1, -1): "-xx - yy - zz - yz - xz - xy = 0",
    (2, -3, 4, -5, 6, -7): "2 xx - 3 yy + 4 zz - 5 yz + 6 xz - 7 xy = 0",
    (0, -1, 0, 0, 1, 0): "-yy + xz = 0",
    (0, 0, 0, 10, -11, 0): "10 yz - 11 xz = 0",
    (999999, -999999, 100000, -100000, 0, 12345): "999999 xx - 999999 yy + 100000 zz - 100000 yz + 12345 xy = 0",
}
COEFFICIENTS = (0, 1, -1, 2, -2, 9, 10, -10, 11, 99, -101, 1000, -12345, 100000, -999999, 999999)
TERM = re.compile("(?:([2-9]|[1-9][0-9]{1,5}) )?(xx|yy|zz|yz|xz|xy)")


def show_by_hand(terms):
    """Of terms (coefficient, letters) in any order, none with the coefficient 0."""
    if terms == []:
        return "0 = 0"
    shown = ""
    for coefficient, letters in terms:
        sign = (" - " if coefficient < 0 else " + ") if shown else ("-" if coefficient < 0 else "")
        shown += sign + (letters if coefficient in (1, -1) else f"{abs(coefficient)} {letters}")
    return shown + " = 0"


def terms_by_hand(total):
    return [(number, letters) for number, letters in zip(total, ("xx", "yy", "zz", "yz", "xz", "xy")) if number != 0]


def is_sums_text(text):
    """Whether the document lets the text be read, told by a pattern."""
    if text == "0 = 0":
        return True
    parts = re.fullmatch("-?(.*) = 0", text)
    if parts is None:
        return False
    terms = [TERM.fullmatch(term) for term in re.split(r" [+-] ", parts[1])]
    return None not in terms and len({term[2] for term in terms}) == len(terms)


class ShowSum(unittest.TestCase):
    def test_known(self):
        for total, text in KNOWN.items():
            self.assertEqual(show_sum(total), text)
            self.assertIs(type(show_sum(total)), str)

    def test_each_coefficient_in_each_place(self):
        for place, number in itertools.product(range(6), COEFFICIENTS):
            for others in (0, 1, -1, 5):
                total = tuple(number if at == place else others for at in range(6))
                self.assertEqual(show_sum(total), show_by_hand(terms_by_hand(total)))

    def test_all_signs_and_noughts(self):
        for total in itertools.product((-3, -1, 0, 1, 12), repeat=6):
            self.assertEqual(show_sum(total), show_by_hand(terms_by_hand(total)))

    def test_more_than_six_figures(self):
        for number in (10 ** 6, 10 ** 59 + 7, -(10 ** 299) - 1):
            self.assertEqual(show_sum((number, 0, 0, 0, 0, number)), show_by_hand([(number, "xx"), (number, "xy")]))
            self.assertEqual(show_sum((0, 0, 0, 1, -number, 0)), show_by_hand([(1, "yz"), (-number, "xz")]))


class ReadSum(unittest.TestCase):
    def check(self, text, total):
        told = read_sum(text)
        self.assertEqual(told, total, text)
        self.assertEqual([type(told), *[type(number) for number in told]], [tuple] + [int] * 6)

    def check_refused(self, *texts):
        for text in texts:
            with self.assertRaises(NoText, msg=repr(text)):
                read_sum(text)

    def test_known(self):
        for total, text in KNOWN.items():
            self.check(text, total)

    def test_all_shown_are_read(self):
        for total in itertools.product((-3, -1, 0, 1, 12), repeat=6):
            self.check(show_sum(total), total)
        for place, number in itertools.product(range(6), COEFFICIENTS):
            total = tuple(number if at == place else (-1) ** at * 20 for at in range(6))
            self.check(show_sum(total), total)

    def test_drawn_ones(self):
        numbers = drawn(3)
        for bound in (1, 2, 100, 999999):
            for time in range(200):
                total = drawn_sum(numbers, bound)
                if max(total) < 10 ** 6 and min(total) > -(10 ** 6):
                    self.check(show_sum(total), total)

    def test_terms_in_any_order(self):
        self.check("-13 xy - 2 xx + yy = 0", (-2, 1, 0, 0, 0, -13))
        self.check("yy - 13 xy - 2 xx = 0", (-2, 1, 0, 0, 0, -13))
        for total in ((2, -3, 4, -5, 6, -7), (-1, 1, -1, 1, -1, 1), (999999, 1, 0, -10, 0, -1), (0, 5, 0, 0, 0, -20)):
            for terms in itertools.permutations(terms_by_hand(total)):
                self.check(show_by_hand([*terms]), total)

    def test_noughts_ahead_and_what_is_never_written(self):
        for letters in ("xx", "yy", "zz", "yz", "xz", "xy"):
            for figures in ("02", "00", "0", "-0", "1", "01", "000001", "012345", "1000000", "9999999", "0000002",
                            "12345678901234567890"):
                self.check_refused(f"{figures} {letters} = 0", f"-{figures} {letters} = 0")
                other = "zz" if letters == "xx" else "xx"
                self.check_refused(f"5 {other} + {figures} {letters} = 0", f"5 {other} - {figures} {letters} = 0",
                                   f"{figures} {letters} - {other} = 0")

    def test_a_term_twice(self):
        for letters in ("xx", "yy", "zz", "yz", "xz", "xy"):
            self.check_refused(f"{letters} + {letters} = 0", f"{letters} - {letters} = 0",
                               f"2 {letters} + 3 {letters} = 0", f"xx + yy + zz + yz + xz + xy + 2 {letters} = 0",
                               f"-{letters} + {letters} = 0")

    def test_blanks(self):
        self.check_refused(" xx = 0", "xx = 0 ", "xx  = 0", "xx =  0", "xx= 0", "xx =0", "xx=0", "2xx = 0", "2  xx = 0",
                           "2 x x = 0", "- xx = 0", "- 2 xx = 0", "-  xx = 0", "xx+ yy = 0", "xx +yy = 0", "xx+yy = 0",
                           "xx  + yy = 0", "xx +  yy = 0", "xx + 2  yy = 0", "xx + 2yy = 0", "1 2 xx = 0", "xx + yy= 0",
                           " 0 = 0", "0  = 0", "0 =  0", "0=0", "0 = 0 ", "xx - yy  = 0", "xx -2 yy = 0", "2 3 xx = 0")

    def test_signs(self):
        self.check_refused("+xx = 0", "+ xx = 0", "+2 xx = 0", "+ 2 xx = 0", "xx yy = 0", "xx 2 yy = 0",
                           "xx + + yy = 0", "xx - - yy = 0", "xx + -yy = 0", "xx - -yy = 0", "xx + -2 yy = 0",
                           "xx - +2 yy = 0", "--xx = 0", "--2 xx = 0", "-+xx = 0", "xx + = 0", "xx - = 0", "+ = 0", "- = 0", "-- = 0",
                           "xx +  = 0", "xx + yy + = 0", "xx +- yy = 0", "xx * yy = 0", "2 * xx = 0", "xx , yy = 0",
                           "xx + 2 = 0", "xx + 0 = 0", "0 + xx = 0", "-0 = 0", "+0 = 0", "00 = 0", "2 = 0", "-2 = 0",
                           "2 - xx = 0", "- - xx = 0", "xx - 2 - yy = 0", "+ - = 0", "-2 -xx = 0")

    def test_other_letters(self):
        self.check_refused("x = 0", "xxx = 0", "zy = 0", "zx = 0", "yx = 0", "XX = 0", "Xx = 0", "ww = 0", "xw = 0",
                           "2 x = 0", "2 xxx = 0", "xx + ab = 0", "2 zx + xx = 0", "x x = 0", "xxyy = 0", "x2 = 0",
                           "x^2 = 0", "xx + 3 yx = 0", "xx xx = 0", "2 xx yy = 0", "xx2 = 0", "xx 2 = 0")

    def test_ends(self):
        self.check_refused("", " ", "0", "= 0", " = 0", "xx", "xx =", "xx = ", "xx = 1", "xx = 00", "xx = -0",
                           "xx = 0 = 0", "0 = 0 = 0", "xx = yy", "0 = xx", "xx = 0.", "xx == 0", "xx + yy", "-",
                           "xx = 0xx = 0", "0 = 00", "xx = 0 + yy = 0", "-0 = 0 = 0", "  = 0")

    def test_line_ends_and_tabs(self):
        for sign in ("\n", "\t", "\r", "\r\n", "\x0b", "\x0c", "\x1c", "\x85", "\u2028", "\xa0", "\0"):
            self.check_refused(f"xx = 0{sign}", f"{sign}xx = 0", f"xx{sign}= 0", f"xx ={sign}0", f"2{sign}xx = 0",
                               f"xx{sign}+ yy = 0", f"xx +{sign}yy = 0", f"xx{sign} = 0", f"x{sign}x = 0", sign,
                               f"0 = 0{sign}", f"{sign}0 = 0", f"0{sign}= 0", f"xx + yy{sign} = 0", f"2{sign} xx = 0",
                               f"{sign}2 xx = 0", f"-{sign}2 xx = 0", f"xx + {sign}2 yy = 0", f"-{sign}xx = 0",
                               f"1{sign}2 xx = 0")

    def test_other_figures(self):
        self.check_refused("\u0662 xx = 0", "\uff12 xx = 0", "1\u0662 xx = 0", "\u00b2 xx = 0", "2_0 xx = 0",
                           "2.0 xx = 0", "2e3 xx = 0", "0x2 xx = 0", "1/2 xx = 0", "II xx = 0", "1,000 xx = 0",
                           "a xx = 0", "12a xx = 0", "xx + \u0967\u0968 yy = 0", "+2 xx = 0", "xx + 0b1 yy = 0")

    def test_what_is_no_text(self):
        self.check_refused(None, 0, 1, True, False, (), [], {}, (1, 1, -1, 0, 0, 0), ["xx = 0"], ("xx = 0",), b"xx = 0",
                           {"xx = 0": 1}, 2.5, str, object())

    def test_one_sign_changed(self):
        signs = " +-=0123456789xyzXw\n\t_."
        for text in ("-2 xx + yy - 13 xy = 0", "xx - 10 zz = 0", "0 = 0", "-yy + 120 yz = 0"):
            places = range(len(text) + 1)
            changed = {text[:at] + sign + text[at + more:] for at in places for sign in ("", *signs) for more in (0, 1)}
            for made in sorted(changed):
                if is_sums_text(made):
                    terms = re.findall(r"([+-]? ?)(?:(\d+) )?([xyz]{2})", made)
                    read = {letters: int(sign.strip() + (size or "1")) for sign, size, letters in terms}
                    self.check(made, tuple(read.get(letters, 0) for letters in ("xx", "yy", "zz", "yz", "xz", "xy")))
                else:
                    self.check_refused(made)

    def test_each_told_is_a_new_one(self):
        for text in KNOWN.values():
            self.assertIsNot(read_sum(text), read_sum(text))


if __name__ == "__main__":
    unittest.main()
