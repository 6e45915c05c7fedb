import itertools
import math
import unittest

from conicplaces.errors import Flat, NoPair, OffCurve
from conicplaces.pencils import numbers_of, point_by
from trial import CIRCLE, CURVES, FAR, FLAT, LONG, MIXED, is_lowest, is_vertex, lowest_by_hand, measure_by_hand
from trial import product_of, slopes_by_hand, stretched_by, through, worth_by_hand

PAIRS = [pair for pair in itertools.product((-3, -2, -1, 0, 1, 2, 5, 6), repeat=2) if pair != (0, 0)]


def direction_by_hand(point, m, n):
    p, q, r = point
    if r != 0:
        return (m, n, 0)
    return (m, 0, n) if q != 0 else (0, m, n)


class PointBy(unittest.TestCase):
    def check(self, total, given, m, n):
        told = point_by(total, given, m, n)
        self.assertTrue(is_lowest(told), (total, given, m, n, told))
        self.assertEqual(worth_by_hand(total, told), 0, (total, given, m, n, told))
        point = lowest_by_hand(given)
        direction = direction_by_hand(point, m, n)
        self.assertEqual(measure_by_hand((point, direction, told)), 0, (total, given, m, n, told))
        touching = product_of(slopes_by_hand(total, point), direction) == 0
        self.assertEqual(told == point, touching, (total, given, m, n, told))
        return told

    def test_known(self):
        self.assertEqual(point_by(CIRCLE, (1, 0, 1), 2, 1), (3, 4, -5))
        self.assertEqual(point_by(CIRCLE, (1, 0, -1), 2, 1), (3, 4, 5))
        self.assertEqual(point_by(CIRCLE, (1, 0, 1), 1, 0), (1, 0, -1))
        self.assertEqual(point_by(CIRCLE, (1, 0, 1), 0, 1), (1, 0, 1))
        self.assertEqual(point_by((0, -1, 0, 0, 1, 0), (1, 0, 0), 2, 3), (4, 6, 9))
        self.assertEqual(point_by(MIXED, (1, 0, 0), 1, 1), (1, -2, -2))

    def test_all_pairs(self):
        for total, points in CURVES.items():
            for point, pair in itertools.product(points, PAIRS):
                self.check(total, point, *pair)

    def test_not_in_lowest_terms(self):
        for total, points in CURVES.items():
            pairs = ((1, 0), (0, 1), (2, -3), (-4, 6))
            for point, times, pair in itertools.product(points, (-1, 2, -6, 10 ** 58), pairs):
                told = self.check(total, stretched_by(point, times), *pair)
                self.assertEqual(told, self.check(total, point, *pair))

    def test_a_part_in_common_changes_nothing(self):
        for total, points in CURVES.items():
            for point, (m, n), times in itertools.product(points, PAIRS[::5], (-1, 2, -15, 10 ** 58)):
                self.assertEqual(self.check(total, point, m * times, n * times), self.check(total, point, m, n))

    def test_a_direction_that_touches(self):
        for total, points in CURVES.items():
            for point in points:
                slopes = slopes_by_hand(total, point)
                first = product_of(slopes, direction_by_hand(point, 1, 0))
                second = product_of(slopes, direction_by_hand(point, 0, 1))
                for times in (1, -1, 4):
                    told = self.check(total, point, times * second, -times * first)
                    self.assertEqual(told, lowest_by_hand(point))

    def test_sixty_figures(self):
        for pair in itertools.product((*LONG, 0, 1), repeat=2):
            if pair != (0, 0):
                self.check(CIRCLE, (3, 4, 5), *pair)
                self.check(MIXED, (2, 2, -1), *pair)
                self.check((LONG[0], 0, LONG[1], LONG[2], 0, 1), (0, 1, 0), *pair)
                for point in FAR:
                    self.check(through(point, (1, 2, -1), (0, 3, 1)), point, *pair)

    def test_refusals(self):
        for total in FLAT:
            for point, pair in itertools.product(((0, 0, 0), (1, 2, 5), (1, 1, 0)), ((0, 0), (1, 2))):
                with self.assertRaises(Flat) as refused:
                    point_by(total, point, *pair)
                self.assertTrue(is_vertex(total, refused.exception.vertex), total)
                refused.exception.vertex = None
        for total in CURVES:
            for point, pair in itertools.product(((0, 0, 0), (1, 2, 5), (2, 4, 10), (-1, -2, -5)), ((0, 0), (1, 2))):
                with self.assertRaises(OffCurve, msg=(total, point)):
                    point_by(total, point, *pair)
        for total, points in CURVES.items():
            for point in points:
                with self.assertRaises(NoPair):
                    point_by(total, point, 0, 0)

    def test_each_told_is_a_new_one(self):
        for point in CURVES[CIRCLE]:
            given = tuple(point)
            for pair in ((1, 0), (0, 1), (1, 1)):
                self.assertIsNot(point_by(CIRCLE, point, *pair), point_by(CIRCLE, point, *pair))
                self.assertIsNot(point_by(CIRCLE, point, *pair), point)
            self.assertEqual(point, given)


class NumbersOf(unittest.TestCase):
    def check(self, total, point, other):
        told = numbers_of(total, point, other)
        self.assertIs(type(told), tuple)
        self.assertEqual([type(number) for number in told], [int, int])
        self.assertEqual(math.gcd(*told), 1, (total, point, other, told))
        self.assertGreater(next(number for number in told if number != 0), 0, (total, point, other, told))
        self.assertEqual(point_by(total, point, *told), lowest_by_hand(other), (total, point, other, told))
        return told

    def test_known(self):
        self.assertEqual(numbers_of(CIRCLE, (1, 0, -1), (3, 4, 5)), (2, 1))
        self.assertEqual(numbers_of(CIRCLE, (1, 0, 1), (1, 0, -1)), (1, 0))
        self.assertEqual(numbers_of(CIRCLE, (1, 0, 1), (1, 0, 1)), (0, 1))
        self.assertEqual(numbers_of((0, -1, 0, 0, 1, 0), (1, 0, 0), (4, 6, 9)), (2, 3))
        self.assertEqual(numbers_of((0, -1, 0, 0, 1, 0), (1, 0, 0), (1, 0, 0)), (1, 0))

    def test_all_points(self):
        for total, points in CURVES.items():
            for point, other in itertools.product(points, repeat=2):
                self.check(total, point, other)

    def test_the_numbers_of_what_two_numbers_tell(self):
        for total, points in CURVES.items():
            for point, (m, n) in itertools.product(points, PAIRS):
                divisor = math.gcd(m, n) if (m, n) > (0, 0) else -math.gcd(m, n)
                told = self.check(total, point, point_by(total, point, m, n))
                self.assertEqual(told, (m // divisor, n // divisor))

    def test_the_point_itself(self):
        for total, points in CURVES.items():
            for point in points:
                told = self.check(total, point, point)
                slopes = slopes_by_hand(total, point)
                self.assertEqual(product_of(slopes, direction_by_hand(lowest_by_hand(point), *told)), 0)
                self.assertEqual(self.check(total, point, stretched_by(point, -3)), told)

    def test_not_in_lowest_terms(self):
        for total, points in CURVES.items():
            for point, other in itertools.product(points, repeat=2):
                told = self.check(total, point, other)
                for one, two in ((-1, 1), (1, -1), (4, 6), (-10, 10 ** 58), (10 ** 58, -3)):
                    self.assertEqual(self.check(total, stretched_by(point, one), stretched_by(other, two)), told)

    def test_sixty_figures(self):
        for point in FAR:
            total = through(point, (1, 2, -1), (0, 3, 1))
            self.check(total, point, point)
            for pair in ((1, 0), (0, 1), (3, -2)):
                other = point_by(total, point, *pair)
                self.assertEqual(self.check(total, point, other), pair)
                self.check(total, other, point)
                self.check(total, other, other)
        long = (LONG[0], 0, LONG[1], LONG[2], 0, 1)
        self.check(long, (0, 1, 0), (0, -LONG[1], LONG[2]))
        self.check(long, (0, -LONG[1], LONG[2]), (0, 5, 0))

    def test_refusals(self):
        for total in FLAT:
            for point, other in itertools.product(((0, 0, 0), (1, 2, 5), (1, 1, 0)), repeat=2):
                with self.assertRaises(Flat) as refused:
                    numbers_of(total, point, other)
                self.assertTrue(is_vertex(total, refused.exception.vertex), total)
        for total, points in CURVES.items():
            for off in ((0, 0, 0), (1, 2, 5), (-2, -4, -10)):
                for pair in ((off, points[0]), (points[0], off), (off, off)):
                    with self.assertRaises(OffCurve, msg=(total, pair)):
                        numbers_of(total, *pair)

    def test_each_told_is_a_new_one(self):
        for point, other in itertools.product(CURVES[CIRCLE], repeat=2):
            self.assertIsNot(numbers_of(CIRCLE, point, other), numbers_of(CIRCLE, point, other))


if __name__ == "__main__":
    unittest.main()
