"""What is promised over the whole program: what its parts tell of the same drawn curves must go together."""
import itertools
import math
import unittest

from conicplaces.alikes import alike_by, standard_of
from conicplaces.curves import bad_of, point_or_place
from conicplaces.descent import pair_point
from conicplaces.desk import Desk
from conicplaces.errors import BadPlace, Flat
from conicplaces.fitting import fitting_rests
from conicplaces.meets import line_met
from conicplaces.notes import read_sum, show_sum
from conicplaces.pencils import numbers_of, point_by
from conicplaces.places import bad_places, pair_sign
from conicplaces.plains import plain_of
from conicplaces.smalls import small_point
from conicplaces.sums import size_of
from trial import bad_by_trial, changed_by_hand, drawn, drawn_sum, fits_by_all_rests, is_lowest, is_one_signed, is_table
from trial import is_vertex, line_through, primes_of, product_of, size_by_hand, slopes_by_hand, stretched_by
from trial import turned_by_hand, worth_by_hand

PAIRS = ((1, 0), (0, 1), (1, 1), (2, -1), (3, 5))


def drawn_sums(seed, bound, count):
    numbers = drawn(seed)
    return [drawn_sum(numbers, bound) for time in range(count)]


# Many kinds and sizes, flat ones among them.
SUMS = [*drawn_sums(1, 2, 150), *drawn_sums(2, 9, 150), *drawn_sums(3, 40, 100), *drawn_sums(4, 100, 100)]
ROUND = [total for total in SUMS if size_by_hand(total) != 0]
SOUND = [total for total in ROUND if bad_of(total) == []]


class PointOrPlace(unittest.TestCase):
    def test_just_one_of_two(self):
        words = []
        for total in SUMS:
            word, told = point_or_place(total)
            words.append(word)
            if word == "point":
                self.assertTrue(is_lowest(told), (total, told))
                self.assertEqual(worth_by_hand(total, told), 0, (total, told))
            else:
                self.assertEqual(word, "place")
                self.assertIn(told, bad_of(total), total)
        self.assertGreater(words.count("point"), 100)
        self.assertGreater(words.count("place"), 100)

    def test_a_point_just_where_there_are_no_bad_places(self):
        for total in ROUND:
            bad = bad_of(total)
            self.assertEqual(len(bad) % 2, 0, total)
            self.assertEqual(point_or_place(total)[0] == "point", bad == [], total)

    def test_those_of_the_size_0_have_a_point(self):
        flat = [total for total in SUMS if size_by_hand(total) == 0]
        self.assertGreater(len(flat), 20)
        for total in flat:
            self.assertEqual(point_or_place(total)[0], "point", total)
            for refused in (bad_of, plain_of):
                with self.assertRaises(Flat) as told:
                    refused(total)
                self.assertTrue(is_vertex(total, told.exception.vertex), total)

    def test_a_bad_place_lets_no_rests_fit(self):
        for total in ROUND:
            bad = bad_of(total)
            self.assertEqual(0 in bad, is_one_signed(total), total)
            self.assertEqual(bad, bad_by_trial(*plain_of(total)[2]), total)
            if max(total) <= 9 and min(total) >= -9:
                for prime in (2, 3, 5):
                    self.assertEqual(prime in bad, not fits_by_all_rests(total, prime), (total, prime))


class Plain(unittest.TestCase):
    def threes(self, bound):
        threes = sorted({plain_of(total)[2] for total in ROUND})
        return [three for three in threes if max(abs(number) for number in three) <= bound]

    def test_at_every_other_place_rests_fit(self):
        for three in self.threes(10 ** 6)[::2]:
            bad = bad_places(*three)
            for prime in sorted({2, 3, 5, 7, *primes_of(abs(math.prod(three)))}):
                if prime < 10 ** 4:
                    for k in (1, 2, 3, 7, 12):
                        self.check_fit(three, prime, k, prime in bad)

    def check_fit(self, three, prime, k, bad):
        if bad:
            with self.assertRaises(BadPlace) as refused:
                fitting_rests(*three, prime, k)
            self.assertEqual(refused.exception.place, prime)
            return
        rests = fitting_rests(*three, prime, k)
        self.assertTrue(any(rest % prime != 0 for rest in rests), (three, prime, k))
        self.assertTrue(all(0 <= rest < prime ** k for rest in rests), (three, prime, k))
        self.assertEqual(worth_by_hand((*three, 0, 0, 0), rests) % prime ** k, 0, (three, prime, k))

    def test_small_points(self):
        for three in self.threes(10 ** 3):
            bad = bad_places(*three)
            if bad == []:
                a, b, c = three
                x, y, z = small_point(*three)
                self.assertEqual(a * x * x + b * y * y + c * z * z, 0, three)
                self.assertTrue(x * x <= abs(b * c) and y * y <= abs(c * a) and z * z <= abs(a * b), three)
            else:
                with self.assertRaises(BadPlace) as refused:
                    small_point(*three)
                self.assertEqual(refused.exception.place, bad[0])

    # a xx + b yy + c zz is 0 where -ac xx - bc yy is the square of cz.
    def test_pairs(self):
        words = []
        for a, b, c in self.threes(10 ** 3):
            bad = bad_places(a, b, c)
            told = pair_point(-a * c, -b * c)
            words.append(told[0])
            if bad == []:
                x, y, z = told[1]
                self.assertEqual(worth_by_hand((a, b, c, 0, 0, 0), (c * y, c * z, x)), 0, (a, b, c))
            else:
                self.assertEqual(told[0], "none")
                self.assertIn(told[1], bad)
            for place in sorted({0, 2, *primes_of(abs(a * b * c))}):
                self.assertEqual(pair_sign(-a * c, -b * c, place), -1 if place in bad else 1, (a, b, c, place))
        self.assertGreater(words.count("point"), 20)
        self.assertGreater(words.count("none"), 20)


class AllPoints(unittest.TestCase):
    def test_each_point_by_two_numbers_and_back(self):
        for total in SOUND:
            start = point_or_place(total)[1]
            points = [point_by(total, start, *pair) for pair in PAIRS]
            self.assertEqual(len(set(points)), len(PAIRS), total)
            for point, pair in zip(points, PAIRS):
                self.assertEqual(worth_by_hand(total, point), 0, total)
                self.assertEqual(numbers_of(total, start, point), pair, total)
            for one, other in itertools.pairwise([start, *points]):
                self.assertEqual(point_by(total, one, *numbers_of(total, one, other)), other, total)

    def test_points_that_are_near_have_their_two_numbers(self):
        near = [point for point in itertools.product(range(-4, 5), repeat=3) if any(point) and is_lowest(point)]
        for total in SOUND[::2]:
            start = point_or_place(total)[1]
            for point in near:
                if worth_by_hand(total, point) == 0:
                    self.assertEqual(point_by(total, start, *numbers_of(total, start, point)), point, total)

    def test_lines(self):
        for total in SOUND:
            start = point_or_place(total)[1]
            self.assertEqual(line_met(total, slopes_by_hand(total, start)), [start], total)
            for pair in PAIRS:
                point = point_by(total, start, *pair)
                if point != start:
                    self.assertEqual(line_met(total, line_through(start, point)), sorted([start, point]), total)

    def test_lines_and_curves_without_points(self):
        lines = ((1, 0, 0), (0, 1, 0), (0, 0, 1), (1, 1, 1), (2, -3, 5))
        for total in ROUND:
            for line in lines:
                for point in line_met(total, line):
                    self.assertEqual([worth_by_hand(total, point), product_of(line, point), bad_of(total)], [0, 0, []])

    def test_standard(self):
        for total in SOUND:
            table, scale = standard_of(total, point_or_place(total)[1])
            self.assertTrue(is_table(table), total)
            self.assertNotEqual(scale, 0)
            self.assertEqual(changed_by_hand(total, table), (0, -scale, 0, 0, scale, 0), total)
            for m, n in PAIRS:
                self.assertEqual(worth_by_hand(total, turned_by_hand(table, (m * m, m * n, n * n))), 0, total)


class Alike(unittest.TestCase):
    def check(self, one, other):
        told = alike_by(one, other)
        bad, another = bad_of(one), bad_of(other)
        if told[0] == "table":
            self.assertEqual([bad, another], [[], []])
            self.assertTrue(is_table(told[1]), (one, other))
            top, bottom = told[2]
            self.assertNotIn(0, (top, bottom))
            changed = changed_by_hand(one, told[1])
            self.assertEqual(stretched_by(changed, bottom), stretched_by(other, top), (one, other))
        elif told[0] == "place":
            self.assertNotEqual(told[1] in bad, told[1] in another, (one, other))
        else:
            self.assertEqual([told, another], [("alike", bad), bad], (one, other))
            self.assertNotEqual(bad, [])
        return told[0]

    def test_drawn_ones(self):
        words = [self.check(one, other) for one, other in zip(ROUND, [*ROUND[7:], *ROUND[:7]])]
        self.assertGreater(words.count("table"), 20)
        self.assertGreater(words.count("place"), 20)

    def test_those_with_points(self):
        for one, other in zip(SOUND, SOUND[1:]):
            self.assertEqual(self.check(one, other), "table")

    def test_the_same_bad_places(self):
        groups = {}
        for total in ROUND:
            groups.setdefault(tuple(bad_of(total)), []).append(total)
        words = [self.check(one, other) for group in groups.values() for one, other in zip(group, group[1:])]
        self.assertGreater(words.count("alike"), 20)
        self.assertEqual(words.count("place"), 0)


class AtTheDesk(unittest.TestCase):
    def setUp(self):
        self.desk = Desk()

    def asked(self, row, total, ask):
        """The function's answer is the desk's too, or both refuse the sum as a flat one."""
        if size_by_hand(total) != 0:
            self.assertEqual(self.desk.say(row), ask(total), row)
            return
        for refused in (lambda: ask(total), lambda: self.desk.say(row)):
            with self.assertRaises(Flat, msg=row) as told:
                refused()
            self.assertTrue(is_vertex(total, told.exception.vertex), total)

    def words(self, values):
        return " ".join(str(value) for value in values)

    def test_texts_sizes_and_places(self):
        for total in SUMS:
            self.assertEqual(self.desk.say(f"curve a {show_sum(total)}"), "ok")
            self.assertEqual(self.desk.say("show a"), show_sum(total))
            self.assertEqual(read_sum(self.desk.say("show a")), total)
            self.assertEqual(self.desk.say("size a"), str(size_of(total)))
            self.assertEqual(self.desk.say("size a"), str(size_by_hand(total)))
            self.asked("bad a", total, lambda asked: self.words(bad_of(asked)) or "none")
            word, told = self.desk.say("point a").split(" ", 1)
            self.assertEqual(word, point_or_place(total)[0])
            numbers = tuple(int(number) for number in told.split(" "))
            if word == "point":
                self.assertTrue(is_lowest(numbers))
                self.assertEqual(worth_by_hand(total, numbers), 0, total)
            else:
                self.assertIn(numbers[0], bad_of(total))

    def test_points(self):
        for total in SOUND:
            self.desk.say(f"curve a {show_sum(total)}")
            start = tuple(int(number) for number in self.desk.say("point a").split(" ")[1:])
            for m, n in PAIRS:
                point = point_by(total, start, m, n)
                self.assertEqual(self.desk.say(f"next a {self.words(start)} {m} {n}"), self.words(point))
                self.assertEqual(self.desk.say(f"pair a {self.words(start)} {self.words(point)}"), f"{m} {n}")

    def test_lines(self):
        for total, line in itertools.product(SUMS[::2], ((1, 0, 0), (0, 1, -1), (2, -3, 5))):
            self.desk.say(f"curve a {show_sum(total)}")
            self.asked(f"met a {self.words(line)}", total,
                       lambda asked: "; ".join(self.words(point) for point in line_met(asked, line)) or "none")

    def test_alike(self):
        for one, other in zip(ROUND, ROUND[3:]):
            self.desk.say(f"curve one {show_sum(one)}")
            self.desk.say(f"curve other {show_sum(other)}")
            told = alike_by(one, other)
            word, *places = self.desk.say("alike one other").split(" ")
            self.assertEqual(word, told[0])
            if word == "place":
                self.assertNotEqual(int(places[0]) in bad_of(one), int(places[0]) in bad_of(other))
            else:
                self.assertEqual(places, [] if word == "table" else [str(place) for place in told[1]])

    def test_many_curves_beside_one_another(self):
        names = ["".join(letters) for letters in itertools.product("abcdefgh", repeat=3)][:len(SUMS)]
        for name, total in zip(names, SUMS):
            self.desk.say(f"curve {name} {show_sum(total)}")
        for name in names[::3]:
            self.desk.say(f"drop {name}")
        for place, (name, total) in enumerate(zip(names, SUMS)):
            if place % 3 != 0:
                self.assertEqual(self.desk.say(f"show {name}"), show_sum(total))


if __name__ == "__main__":
    unittest.main()
