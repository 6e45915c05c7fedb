import itertools
import math
import unittest

from conicplaces.errors import Flat, NoLine
from conicplaces.meets import line_met
from trial import CIRCLE, CURVES, FAR, FLAT, LONG, MIXED, is_lowest, is_vertex, line_through, lowest_by_hand
from trial import product_of, size_by_hand, slopes_by_hand, stretched_by, through, worth_by_hand

LINES = [line for line in itertools.product((-3, -1, 0, 1, 2), repeat=3) if line != (0, 0, 0)]
# Without any point.
EMPTY = ((1, 1, 1, 0, 0, 0), (1, 1, -3, 0, 0, 0), (1, 1, 1, 1, 1, 1), (1, 1, -2, 0, 0, 1), (3, 5, 7, 0, 0, 0),
         (-1, 3, 5, 0, 0, 0))
PARABOLA = (0, -1, 0, 0, 1, 0)


def met_by_hand(total, line):
    """Puts two of the unknowns in the place of the third, and solves for these two."""
    place = next(place for place in range(3) if line[place] != 0)
    ends = []
    for other in {0, 1, 2} - {place}:
        end = [0, 0, 0]
        end[other], end[place] = line[place], -line[other]
        ends.append(end)
    a = worth_by_hand(total, ends[0])
    c = worth_by_hand(total, ends[1])
    b = worth_by_hand(total, [one + other for one, other in zip(*ends)]) - a - c
    square = b * b - 4 * a * c
    if square < 0 or math.isqrt(square) ** 2 != square:
        return []
    root = math.isqrt(square)
    pairs = ((1, 0), (c, -b)) if a == 0 else ((root - b, 2 * a), (-root - b, 2 * a))
    return sorted({lowest_by_hand([u * one + v * other for one, other in zip(*ends)]) for u, v in pairs})


class LineMet(unittest.TestCase):
    def check(self, total, line):
        told = line_met(total, line)
        self.assertIs(type(told), list)
        for point in told:
            self.assertTrue(is_lowest(point), (total, line, told))
            self.assertEqual(product_of(line, point), 0, (total, line, told))
            self.assertEqual(worth_by_hand(total, point), 0, (total, line, told))
        self.assertEqual(told, met_by_hand(total, line), (total, line))
        return told

    def test_known(self):
        self.assertEqual(line_met(CIRCLE, (0, 1, 0)), [(1, 0, -1), (1, 0, 1)])
        self.assertEqual(line_met(CIRCLE, (1, 0, 0)), [(0, 1, -1), (0, 1, 1)])
        self.assertEqual(line_met(CIRCLE, (0, 0, 1)), [])
        self.assertEqual(line_met(CIRCLE, (1, 0, 1)), [(1, 0, -1)])
        self.assertEqual(line_met(CIRCLE, (1, 0, -1)), [(1, 0, 1)])
        self.assertEqual(line_met(CIRCLE, (3, 4, -5)), [(3, 4, 5)])
        self.assertEqual(line_met(CIRCLE, (1, -1, 0)), [])
        self.assertEqual(line_met(CIRCLE, (1, -2, 1)), [(1, 0, -1), (3, 4, 5)])
        self.assertEqual(line_met(MIXED, (0, 0, 1)), [(0, 1, 0), (1, 0, 0)])
        self.assertEqual(line_met(MIXED, (0, 1, 1)), [(1, 0, 0)])
        self.assertEqual(line_met(PARABOLA, (1, 0, 0)), [(0, 0, 1)])
        self.assertEqual(line_met(PARABOLA, (-6, 5, -1)), [(1, 2, 4), (1, 3, 9)])

    def test_rising_as_tuples(self):
        self.assertEqual(line_met(MIXED, (0, 1, 0)), [(0, 0, 1), (1, 0, 0)])
        self.assertEqual(line_met((1, 1, -5, 0, 0, 0), (0, 1, -1)), [(2, -1, -1), (2, 1, 1)])
        self.assertEqual(line_met((1, 1, -101, 0, 0, 0), (1, 0, -10)), [(10, -1, 1), (10, 1, 1)])
        # By their texts these would stand the other way about.
        for first, second in (((4, 2, 1), (100, 10, 1)), ((4, -2, 1), (25, 5, 1)), ((9, 3, 1), (100, -10, 1)),
                              ((1, -10, 100), (1, -9, 81)), ((9, -6, 4), (16, 20, 25))):
            self.assertEqual(line_met(PARABOLA, line_through(first, second)), [first, second])
            self.assertEqual(line_met(PARABOLA, line_through(second, first)), [first, second])

    def test_small_lines(self):
        counts = [len(self.check(total, line)) for total in CURVES for line in LINES]
        for count in range(3):
            self.assertGreater(counts.count(count), 50, count)

    def test_all_small_curves(self):
        counts = []
        for total in itertools.product((-1, 0, 2), (1, 0), (0, -1, 3), (0, 1), (0, -2), (1, 0)):
            if size_by_hand(total) != 0:
                counts += [len(self.check(total, line)) for line in LINES[::7]]
        for count in range(3):
            self.assertGreater(counts.count(count), 50, count)

    def test_every_point_near_is_told(self):
        near = [point for point in itertools.product(range(-6, 7), repeat=3) if any(point) and is_lowest(point)]
        for total in CURVES:
            points = [point for point in near if worth_by_hand(total, point) == 0]
            for line in LINES[::3]:
                met = [point for point in points if product_of(line, point) == 0]
                self.assertLessEqual(set(met), set(line_met(total, line)), (total, line))

    def test_lines_through_two_points(self):
        for total, points in CURVES.items():
            for one, other in itertools.combinations(points, 2):
                told = self.check(total, line_through(one, other))
                self.assertEqual(told, sorted([lowest_by_hand(one), lowest_by_hand(other)]))

    def test_lines_that_touch(self):
        for total, points in CURVES.items():
            for point in points:
                self.assertEqual(self.check(total, slopes_by_hand(total, point)), [lowest_by_hand(point)])

    def test_curves_without_points(self):
        for total in EMPTY:
            for line in LINES:
                self.assertEqual(self.check(total, line), [], (total, line))

    def test_so_many_times_a_line(self):
        for total in CURVES:
            for line, times in itertools.product(LINES[::5], (-1, 2, -15, 10 ** 59)):
                self.assertEqual(self.check(total, stretched_by(line, times)), self.check(total, line))

    def test_so_many_times_a_sum(self):
        for total in CURVES:
            for line, times in itertools.product(LINES[::5], (-1, 2, -15, 10 ** 58)):
                self.assertEqual(self.check(stretched_by(total, times), line), self.check(total, line))

    def test_sixty_figures(self):
        for total in (CIRCLE, MIXED, (LONG[0], 0, LONG[1], LONG[2], 0, 1), (*LONG, *LONG[::-1])):
            for line in itertools.product((*LONG, 0, 1), repeat=3):
                if any(line):
                    self.check(total, line)
        long = (LONG[0], 0, LONG[1], LONG[2], 0, 1)
        self.assertEqual(len(self.check(long, (LONG[2], 0, LONG[0]))), 2)
        self.assertEqual(self.check(long, (1, 0, LONG[2])), [(0, 1, 0)])
        # Through two points (1, t, tt), and a hair beside that, where the square lacks 4.
        for t, s in ((10 ** 29 + 7, -3 * 10 ** 29), (10 ** 29 + 7, 10 ** 29 - 1), (10 ** 59 + 3, 5)):
            self.assertEqual(self.check(PARABOLA, (t * s, -t - s, 1)), sorted([(1, t, t * t), (1, s, s * s)]))
            self.assertEqual(self.check(PARABOLA, (t * s + 1, -t - s, 1)), [])

    def test_sixty_figures_met_at_known_points(self):
        for point in FAR:
            total = through(point, (1, 2, -1), (0, 3, 1))
            self.assertEqual(self.check(total, slopes_by_hand(total, point)), [lowest_by_hand(point)])
            for line in ((point[1], -point[0], 0), (point[2], 0, -point[0]), (0, point[2], -point[1])):
                if any(line):
                    self.assertIn(lowest_by_hand(point), self.check(total, line))

    def test_refusals(self):
        for total in FLAT:
            for line in ((0, 0, 0), (1, 2, 3), (0, 0, 1)):
                with self.assertRaises(Flat) as refused:
                    line_met(total, line)
                self.assertTrue(is_vertex(total, refused.exception.vertex), total)
                refused.exception.vertex = None
        for total in (*CURVES, (1, 1, 1, 0, 0, 0)):
            with self.assertRaises(NoLine):
                line_met(total, (0, 0, 0))

    def test_what_is_told_is_the_askers_own(self):
        for line in ((0, 1, 0), (1, 0, 1), (0, 0, 1)):
            right = line_met(CIRCLE, line)
            told = line_met(CIRCLE, line)
            told.append((0, 0, 0))
            told[0] = None
            self.assertEqual(line_met(CIRCLE, line), right)
            for one, other in zip(line_met(CIRCLE, line), line_met(CIRCLE, line)):
                self.assertIsNot(one, other)


if __name__ == "__main__":
    unittest.main()
