import unittest

from conicplaces.desk import Desk
from conicplaces.errors import Flat, NoLine, NoName, NoPair, NoRow, NoText, OffCurve
from trial import is_lowest, is_vertex, worth_by_hand

TEXTS = {
    "circle": "xx + yy - zz = 0",
    "three": "xx + yy - 3 zz = 0",
    "ball": "xx + yy + zz = 0",
    "other": "xx + yy - 2 zz + xy = 0",
    "para": "-yy + xz = 0",
    "flat": "xx - yy = 0",
    "noughts": "0 = 0",
    "mixed": "yz + xz + xy = 0",
    "a": "2 xx + 3 yy - 5 zz = 0",
    "abcdefgh": "-2 xx + yy - 13 xy = 0",
}
SIZES = {"circle": "-4", "three": "-12", "ball": "4", "other": "-6", "para": "1", "flat": "0", "noughts": "0",
         "mixed": "1", "a": "-120", "abcdefgh": "0"}
NO_NAMES = ("", "abcdefghi", "A", "aB", "a1", "1", "a-b", "a_b", "a\n", "\na", "a\t", "a.", "\u00e4", "-", "+", "a\r",
            "0", "aA", "circle\n", "abcdefghijklmnopqrstuvwxyz", "a\u00b2", "\u03b1")
NO_NUMBERS = ("01", "+1", "-0", "--1", "-01", "+0", "00", "1.0", "a", "-", "1\n", "\n1", "\t1", "1\t", "1_0", "\u0661",
              "\uff11", "1e3", "0x1", "1" * 61, "-" + "1" * 61, "1" + "0" * 60, "1,", "- 1", "\u00b2", "-1\n", "")
# Each row is in order but for what is told beside it.
IN_ORDER = ("drop a", "show a", "size a", "point a", "bad a", "next circle 1 0 1 2 1", "pair circle 1 0 1 3 4 5",
            "met circle 0 1 0", "alike circle a")


def filled():
    desk = Desk()
    for name, text in TEXTS.items():
        if desk.say(f"curve {name} {text}") != "ok":
            raise AssertionError(name)
    return desk


class Case(unittest.TestCase):
    def check_stands(self, desk):
        for name, text in TEXTS.items():
            self.assertEqual(desk.say(f"show {name}"), text)
            self.assertEqual(desk.say(f"size {name}"), SIZES[name])

    def check_refused(self, error, *rows):
        desk = filled()
        for row in rows:
            with self.assertRaises(error, msg=repr(row)):
                desk.say(row)
            self.check_stands(desk)


class Answers(Case):
    def check(self, *pairs):
        desk = filled()
        for row, answer in pairs:
            told = desk.say(row)
            self.assertIs(type(told), str, row)
            self.assertEqual(told, answer, row)
        self.check_stands(desk)

    def test_curve_and_show(self):
        desk = Desk()
        for name, text in TEXTS.items():
            self.assertEqual(desk.say(f"curve {name} {text}"), "ok")
            self.assertEqual(desk.say(f"show {name}"), text)
        self.check_stands(desk)

    def test_a_text_in_another_order_is_shown_in_order(self):
        desk = Desk()
        self.assertEqual(desk.say("curve a yy - 13 xy - 2 xx = 0"), "ok")
        self.assertEqual(desk.say("show a"), "-2 xx + yy - 13 xy = 0")

    def test_six_figures(self):
        desk = Desk()
        desk.say("curve a 999999 xx - 999998 yy - zz = 0")
        self.assertEqual(desk.say("show a"), "999999 xx - 999998 yy - zz = 0")
        self.assertEqual(desk.say("size a"), str(4 * 999999 * 999998))
        self.assertEqual(desk.say("next a 1 1 1 1 0"), "1 -1 -1")
        self.assertEqual(desk.say("pair a 1 1 1 1 -1 -1"), "1 0")
        self.assertEqual(desk.say("met a 1 -1 0"), "1 1 -1; 1 1 1")

    def test_size(self):
        self.check(*[(f"size {name}", size) for name, size in SIZES.items()])

    def test_point(self):
        desk = filled()
        for name, total in (("circle", (1, 1, -1, 0, 0, 0)), ("para", (0, -1, 0, 0, 1, 0)), ("a", (2, 3, -5, 0, 0, 0)),
                            ("mixed", (0, 0, 0, 1, 1, 1)), ("flat", (1, -1, 0, 0, 0, 0)), ("noughts", (0,) * 6),
                            ("abcdefgh", (-2, 1, 0, 0, 0, -13))):
            words = desk.say(f"point {name}").split(" ")
            self.assertEqual(words[0], "point")
            point = tuple(int(word) for word in words[1:])
            self.assertEqual([str(number) for number in point], words[1:])
            self.assertTrue(is_lowest(point), (name, point))
            self.assertEqual(worth_by_hand(total, point), 0, (name, point))
        for name, bad in (("three", "23"), ("ball", "02"), ("other", "23")):
            self.assertIn(desk.say(f"point {name}"), [f"place {place}" for place in bad])
        self.check_stands(desk)

    def test_bad(self):
        self.check(("bad circle", "none"), ("bad three", "2 3"), ("bad ball", "0 2"), ("bad other", "2 3"),
                   ("bad para", "none"), ("bad mixed", "none"), ("bad a", "none"))
        desk = Desk()
        desk.say("curve q 29 xx + 31 yy - 41 zz = 0")
        self.assertEqual(desk.say("bad q"), "31 41")

    def test_more_than_two_bad_places(self):
        desk = Desk()
        desk.say("curve q 11 xx + 10 yy + 7 zz = 0")
        desk.say("curve r -14 xx - 22 yy - 20 zz = 0")
        self.assertEqual(desk.say("bad q"), "0 2 5 11")
        self.assertEqual(desk.say("alike q r"), "alike 0 2 5 11")

    def test_next(self):
        self.check(("next circle 1 0 1 2 1", "3 4 -5"), ("next circle 1 0 -1 2 1", "3 4 5"),
                   ("next circle 1 0 1 1 0", "1 0 -1"), ("next circle 1 0 1 0 1", "1 0 1"),
                   ("next circle -2 0 2 -4 -2", "3 4 5"), ("next para 1 0 0 2 3", "4 6 9"),
                   ("next para 1 0 0 2 -3", "4 -6 9"), ("next mixed 1 0 0 1 1", "1 -2 -2"),
                   ("next a 1 1 1 1 0", "1 -1 -1"))

    def test_pair(self):
        self.check(("pair circle 1 0 -1 3 4 5", "2 1"), ("pair circle 1 0 1 1 0 -1", "1 0"),
                   ("pair circle 1 0 1 1 0 1", "0 1"), ("pair para 1 0 0 4 6 9", "2 3"),
                   ("pair para 1 0 0 -4 6 -9", "2 -3"), ("pair para 5 0 0 1 0 0", "1 0"),
                   ("pair circle -2 0 2 6 8 10", "2 1"))

    def test_met(self):
        self.check(("met circle 0 1 0", "1 0 -1; 1 0 1"), ("met circle 1 0 1", "1 0 -1"), ("met circle 0 0 1", "none"),
                   ("met circle 3 4 -5", "3 4 5"), ("met circle 1 -2 1", "1 0 -1; 3 4 5"), ("met ball 1 2 3", "none"),
                   ("met para 6 -5 1", "1 2 4; 1 3 9"), ("met mixed 0 0 -7", "0 1 0; 1 0 0"))

    def test_alike(self):
        self.check(("alike circle para", "table"), ("alike para circle", "table"), ("alike a a", "table"),
                   ("alike three other", "alike 2 3"), ("alike other three", "alike 2 3"),
                   ("alike ball ball", "alike 0 2"))
        desk = filled()
        for one, other, places in (("ball", "three", "03"), ("three", "ball", "03"), ("ball", "circle", "02"),
                                   ("circle", "ball", "02"), ("three", "a", "23")):
            self.assertIn(desk.say(f"alike {one} {other}"), [f"place {place}" for place in places])
        self.check_stands(desk)

    def test_sixty_figures(self):
        far = 10 ** 60 - 1
        near = 10 ** 59
        self.check((f"next para {far} 0 0 2 3", "4 6 9"), (f"next para -{far} 0 0 2 3", "4 6 9"),
                   (f"next para 1 0 0 1 {far}", f"1 {far} {far * far}"),
                   (f"next para 1 0 0 1 -{far}", f"1 -{far} {far * far}"),
                   (f"pair para 0 0 -{far} {far} 0 0", "1 0"), (f"met circle 0 {far} 0", "1 0 -1; 1 0 1"),
                   (f"met circle -{far} 0 -{far}", "1 0 -1"),
                   (f"met para 0 {near} -1", f"1 0 0; 1 {near} {near * near}"))

    def test_noughts(self):
        self.check(("next circle 0 1 1 0 1", "0 1 -1"), ("pair circle 0 1 1 0 1 -1", "0 1"),
                   ("met circle 0 0 -1", "none"), ("met para 0 0 1", "1 0 0"))


class Keeping(Case):
    def test_in_the_place_of_another(self):
        desk = filled()
        self.assertEqual(desk.say("curve circle xx + yy - 3 zz = 0"), "ok")
        self.assertEqual(desk.say("show circle"), "xx + yy - 3 zz = 0")
        self.assertEqual(desk.say("bad circle"), "2 3")
        self.assertEqual(desk.say("alike circle three"), "alike 2 3")
        self.assertEqual(desk.say("curve circle xx + yy - zz = 0"), "ok")
        self.check_stands(desk)

    def test_dropped(self):
        desk = filled()
        for name, text in TEXTS.items():
            self.assertEqual(desk.say(f"drop {name}"), "ok")
            for row in (f"drop {name}", f"show {name}", f"size {name}", f"point {name}", f"bad {name}",
                        f"next {name} 1 0 1 1 0", f"pair {name} 1 0 1 1 0 1", f"met {name} 1 0 0",
                        f"alike {name} {name}"):
                with self.assertRaises(NoName, msg=row):
                    desk.say(row)
            self.assertEqual(desk.say(f"curve {name} {text}"), "ok")
            self.check_stands(desk)

    def test_dropping_one_leaves_the_others(self):
        desk = filled()
        desk.say("drop three")
        for name, text in TEXTS.items():
            if name != "three":
                self.assertEqual(desk.say(f"show {name}"), text)
        for row in ("alike three circle", "alike circle three"):
            with self.assertRaises(NoName):
                desk.say(row)

    def test_asking_changes_nothing(self):
        desk = filled()
        for time in range(2):
            for row in ("point circle", "bad three", "next circle 1 0 1 2 1", "pair circle 1 0 1 3 4 5",
                        "met circle 0 1 0", "alike circle para", "alike three other"):
                self.assertEqual(desk.say(row), filled().say(row))
        self.check_stands(desk)

    def test_two_desks(self):
        one, other = Desk(), Desk()
        one.say("curve a xx + yy - zz = 0")
        with self.assertRaises(NoName):
            other.say("show a")
        other.say("curve a xx + yy - 3 zz = 0")
        other.say("curve b xx = 0")
        self.assertEqual(one.say("show a"), "xx + yy - zz = 0")
        self.assertEqual(other.say("show a"), "xx + yy - 3 zz = 0")
        with self.assertRaises(NoName):
            one.say("show b")
        one.say("drop a")
        self.assertEqual(other.say("show a"), "xx + yy - 3 zz = 0")
        self.assertEqual(Desk().say("curve a yy = 0"), "ok")
        with self.assertRaises(NoName):
            one.say("show a")

    def test_words_of_rows_are_names_too(self):
        desk = Desk()
        for name in ("curve", "drop", "show", "size", "point", "bad", "next", "pair", "met", "alike", "ok", "none",
                     "xx", "z", "abcdefgh"):
            self.assertEqual(desk.say(f"curve {name} xx + yy - zz = 0"), "ok")
            self.assertEqual(desk.say(f"show {name}"), "xx + yy - zz = 0")
            self.assertEqual(desk.say(f"met {name} 0 1 0"), "1 0 -1; 1 0 1")
        for letter in "abcdefghijklmnopqrstuvwxyz":
            desk.say(f"curve {letter} xx - {ord(letter)} yy = 0")
        for letter in "abcdefghijklmnopqrstuvwxyz":
            self.assertEqual(desk.say(f"show {letter}"), f"xx - {ord(letter)} yy = 0")


class Refusals(Case):
    def test_no_text(self):
        self.check_refused(NoRow, None, 0, True, (), [], {}, ["show", "a"], ("show", "a"), b"show a", object(), 1.5)

    def test_other_first_words(self):
        self.check_refused(NoRow, "", " ", "  ", "show\ta", "SHOW a", "Show a", "shows a", "sho a", " show a", "a",
                           "ok", "curves a xx = 0", "Curve a xx = 0", " curve a xx = 0", "curve\na xx = 0", "\nshow a",
                           "table a", "place a", "none", "keep a xx = 0", "showa", "say show a", "show\n a", "kept a",
                           "answer a", "xx + yy = 0")

    def test_words_too_few_or_too_many(self):
        for row in IN_ORDER:
            words = row.split(" ")
            for count in range(1, len(words)):
                self.check_refused(NoRow, " ".join(words[:count]))
            self.check_refused(NoRow, row + " a", row + " 1", row + " ", row + "  ", row + " a 1", row + " 1 1",
                               row.replace(" ", "  ", 1))

    def test_curve_without_the_blank(self):
        self.check_refused(NoRow, "curve", "curve ", "curve a", "curve circle", "curve A", "curve a1", "curve\t",
                           "curve 1", "curve xx=0")

    def test_curve_with_the_blank_and_no_text(self):
        self.check_refused(NoText, "curve a ", "curve circle ", "curve neu ", "curve a  ")
        self.check_refused(NoName, "curve  ", "curve A ", "curve   ", "curve  xx = 0", "curve  a xx = 0")

    def test_numbers(self):
        for row in ("next circle 1 0 1 2 1", "pair circle 1 0 1 3 4 5", "met circle 0 1 0"):
            words = row.split(" ")
            for place in range(2, len(words)):
                self.check_refused(NoRow, *[" ".join([*words[:place], number, *words[place + 1:]])
                                            for number in NO_NUMBERS])

    def test_names(self):
        desk = filled()
        for name in NO_NAMES:
            for row in (f"curve {name} xx = 0", f"drop {name}", f"show {name}", f"size {name}", f"point {name}",
                        f"bad {name}", f"next {name} 1 0 1 2 1", f"pair {name} 1 0 1 3 4 5", f"met {name} 0 1 0",
                        f"alike {name} a", f"alike a {name}", f"alike {name} {name}"):
                with self.assertRaises(NoName, msg=repr(row)):
                    desk.say(row)
        for name in ("b", "unknown", "circl", "circles", "abcdefg"):
            for row in (f"drop {name}", f"show {name}", f"size {name}", f"point {name}", f"bad {name}",
                        f"next {name} 1 0 1 2 1", f"pair {name} 1 0 1 3 4 5", f"met {name} 0 1 0",
                        f"alike {name} a", f"alike a {name}"):
                with self.assertRaises(NoName, msg=repr(row)):
                    desk.say(row)
        self.check_stands(desk)

    def test_texts(self):
        self.check_refused(NoText, "curve a xx", "curve a 0", "curve circle xx = 0 ", "curve circle xx = 0\n",
                           "curve circle  xx = 0", "curve circle 1 xx = 0", "curve circle xx + xx = 0",
                           "curve circle 1000000 xx = 0", "curve circle +xx = 0", "curve a xx  + yy = 0",
                           "curve a circle", "curve new xx", "curve a \n", "curve a 2xx = 0", "curve a xx = 0 xx = 0")

    def test_a_refused_curve_is_not_kept(self):
        desk = Desk()
        for row in ("curve new xx", "curve new ", "curve new 1 xx = 0", "curve new"):
            with self.assertRaises((NoText, NoRow)):
                desk.say(row)
            with self.assertRaises(NoName):
                desk.say("show new")

    def test_flat(self):
        desk = filled()
        for name, total in (("flat", (1, -1, 0, 0, 0, 0)), ("noughts", (0,) * 6), ("abcdefgh", (-2, 1, 0, 0, 0, -13))):
            for row in (f"bad {name}", f"next {name} 0 0 1 1 0", f"next {name} 0 0 0 0 0", f"next {name} 1 2 5 0 0",
                        f"pair {name} 0 0 1 0 0 1", f"pair {name} 0 0 0 1 2 5", f"met {name} 1 2 3",
                        f"met {name} 0 0 0", f"alike {name} a", f"alike a {name}", f"alike {name} {name}"):
                with self.assertRaises(Flat, msg=row) as refused:
                    desk.say(row)
                self.assertTrue(is_vertex(total, refused.exception.vertex), row)
                refused.exception.vertex = None
        self.check_stands(desk)

    def test_flat_for_the_first_then_for_the_second(self):
        desk = Desk()
        totals = {"one": (1, 1, 0, 0, 0, 0), "other": (0, 1, 1, 0, 0, 0)}
        desk.say("curve one xx + yy = 0")
        desk.say("curve other yy + zz = 0")
        for first, second in (("one", "other"), ("other", "one")):
            with self.assertRaises(Flat) as refused:
                desk.say(f"alike {first} {second}")
            self.assertTrue(is_vertex(totals[first], refused.exception.vertex))

    def test_off_the_curve(self):
        self.check_refused(OffCurve, "next circle 0 0 0 1 0", "next circle 1 2 5 1 0", "next circle 0 0 0 0 0",
                           "next circle 1 2 5 0 0", "next ball 1 1 1 1 1", "pair circle 0 0 0 1 0 1",
                           "pair circle 1 0 1 0 0 0", "pair circle 1 2 5 1 0 1", "pair circle 1 0 1 1 2 5",
                           "pair circle 0 0 0 0 0 0", "pair para 1 0 0 1 2 3", "next para 1 2 3 1 1")

    def test_no_pair_and_no_line(self):
        self.check_refused(NoPair, "next circle 1 0 1 0 0", "next para 4 6 9 0 0", "next circle -3 -4 -5 0 0")
        self.check_refused(NoLine, "met circle 0 0 0", "met ball 0 0 0", "met para 0 0 0")

    def test_each_ahead_of_those_behind_it(self):
        self.check_refused(NoRow, "next b 0 0 0 0", "next b 0 0 0 0 x", "next flat 0 0 0 0 -0", "pair B 0 0 0 0 0 00",
                           "met noughts 0 0 +0", "met b 0 0", "alike b", "alike B", "alike b c d", "curve B",
                           "drop B 1", "show b  ", "met A1 0 0 a", "next A 1 1 1 1 1 1", "pair  1 1 1 1 1", "keep B xx")
        self.check_refused(NoName, "next b 0 0 0 0 0", "met b 0 0 0", "pair b 0 0 0 0 0 0", "curve B xx", "curve  xx",
                           "curve abcdefghi 0", "curve a1 ", "alike flat b", "alike b flat", "alike B flat", "bad b",
                           "met  0 0 0", "alike  flat", "alike flat ", "drop ", "curve a\n nonsense")
        self.check_refused(NoText, "curve flat nonsense", "curve noughts ", "curve a 0 xx = 0")
        self.check_refused(Flat, "next flat 0 0 0 0 0", "pair noughts 0 0 0 0 0 0", "met flat 0 0 0", "bad flat",
                           "alike flat noughts", "alike a flat", "alike flat a")
        self.check_refused(OffCurve, "next circle 0 0 0 0 0", "next circle 1 1 1 0 0")


if __name__ == "__main__":
    unittest.main()
