import itertools
import unittest

from conicplaces.alikes import alike_by, standard_of
from conicplaces.errors import Flat, OffCurve
from trial import CIRCLE, CURVES, FLAT, MIXED, bad_by_trial, changed_by_hand, drawn, drawn_sum, is_table, is_vertex
from trial import lowest_by_hand, plain_triples, size_by_hand, stretched_by, turned_by_hand, worth_by_hand

PARABOLA = (0, -1, 0, 0, 1, 0)
TABLES = (((1, 0, 0), (0, 1, 0), (0, 0, 1)), ((1, 1, 0), (0, 1, -1), (0, 0, 1)), ((0, 1, 0), (2, 0, 1), (0, 1, -3)),
          ((1, 2, 1), (1, -1, 0), (3, 0, 2)))
# The points that these tell have up to 60 figures.
FAR_PAIRS = ((10 ** 29 + 1, 7), (-3, 10 ** 29 + 9), (10 ** 29 - 1, 10 ** 29), (0, 1), (1, 0))


class StandardOf(unittest.TestCase):
    def check(self, total, point):
        told = standard_of(total, point)
        self.assertIs(type(told), tuple)
        table, scale = told
        self.assertTrue(is_table(table), (total, point, told))
        self.assertIs(type(scale), int)
        self.assertNotEqual(scale, 0, (total, point, told))
        self.assertEqual(changed_by_hand(total, table), (0, -scale, 0, 0, scale, 0), (total, point, told))
        return told

    def test_all_points(self):
        for total, points in CURVES.items():
            for point in points:
                self.check(total, point)

    def test_noughts_in_each_place(self):
        for total, point in ((MIXED, (1, 0, 0)), (MIXED, (0, 1, 0)), (MIXED, (0, 0, 1)), (CIRCLE, (0, 1, 1)),
                             (CIRCLE, (0, 1, -1)), (CIRCLE, (1, 0, 1)), ((1, -1, 1, 0, 0, 0), (1, 1, 0)),
                             ((1, -1, 1, 0, 0, 0), (1, -1, 0)), ((2, -2, 7, 3, -5, 0), (1, -1, 0)),
                             ((0, 7, -3, 5, 11, 13), (1, 0, 0)), ((7, 0, -3, 5, 11, 13), (0, 1, 0)),
                             ((7, -3, 0, 5, 11, 13), (0, 0, 1))):
            self.check(total, point)

    def test_not_in_lowest_terms(self):
        for total, points in CURVES.items():
            for point, times in itertools.product(points, (-1, 2, -6, 10 ** 57)):
                self.check(total, stretched_by(point, times))

    def test_sixty_figures(self):
        for three in ((1, 1, -2), (2, 3, -5), (1, -2, 1), (7, 2, -9)):
            for table in TABLES:
                total = changed_by_hand((*three, 0, 0, 0), table)
                for far in self.far_points(three, table):
                    self.assertEqual(worth_by_hand(total, far), 0)
                    self.check(total, far)

    # The points of the squares alone come from (1, 1, 1); back through the table they are points of the changed sum.
    def far_points(self, three, table):
        a, b, c = three
        (p, q, r), (s, t, u), (v, w, x) = table
        back = ((t * x - u * w, r * w - q * x, q * u - r * t), (u * v - s * x, p * x - r * v, r * s - p * u),
                (s * w - t * v, q * v - p * w, p * t - q * s))
        for m, n in FAR_PAIRS:
            worth = a * m * m + b * n * n
            slope = 2 * (a * m + b * n)
            yield lowest_by_hand(turned_by_hand(back, (worth - slope * m, worth - slope * n, worth)))

    def test_refusals(self):
        for total in FLAT:
            for point in ((0, 0, 0), (1, 2, 5), (1, 1, 0), (0, 0, 1), (1, 0, 0)):
                with self.assertRaises(Flat) as refused:
                    standard_of(total, point)
                self.assertTrue(is_vertex(total, refused.exception.vertex), total)
                refused.exception.vertex = None
        for total in (*CURVES, (1, 1, 1, 0, 0, 0), (1, 1, -3, 0, 0, 0)):
            for point in ((0, 0, 0), (1, 2, 5), (2, 4, 10), (-1, -2, -5), (10 ** 59, 2 * 10 ** 59, 5 * 10 ** 59)):
                with self.assertRaises(OffCurve, msg=(total, point)):
                    standard_of(total, point)

    def test_each_told_is_a_new_one(self):
        for total, points in CURVES.items():
            for point in points:
                one = standard_of(total, point)
                other = standard_of(total, point)
                self.assertIsNot(one, other)
                self.assertIsNot(one[0], other[0])
                for row in one[0]:
                    self.assertFalse(any(row is told for told in (*other[0], point)))


class AlikeBy(unittest.TestCase):
    def check_table(self, one, other, told):
        self.assertIs(type(told), tuple)
        word, table, scale = told
        self.assertEqual(word, "table", (one, other))
        self.assertTrue(is_table(table), (one, other, told))
        self.assertEqual([type(scale), *[type(number) for number in scale]], [tuple, int, int])
        top, bottom = scale
        self.assertNotIn(0, scale, (one, other, told))
        changed = changed_by_hand(one, table)
        self.assertEqual(stretched_by(changed, bottom), stretched_by(other, top), (one, other, told))

    def check(self, one, other, bad_of_one, bad_of_other):
        told = alike_by(one, other)
        if bad_of_one == bad_of_other == []:
            self.check_table(one, other, told)
        elif bad_of_one == bad_of_other:
            self.assertEqual(told, ("alike", bad_of_one), (one, other))
            self.assertEqual([type(told), type(told[1])], [tuple, list])
        else:
            self.assertEqual([type(told), *[type(part) for part in told]], [tuple, str, int])
            self.assertEqual(told[0], "place", (one, other))
            self.assertIn(told[1], set(bad_of_one) ^ set(bad_of_other), (one, other))
        return told[0]

    def check_both_ways(self, one, other, bad_of_one, bad_of_other):
        self.assertEqual(self.check(one, other, bad_of_one, bad_of_other),
                         self.check(other, one, bad_of_other, bad_of_one))

    def test_known(self):
        for one, other, word in ((CIRCLE, MIXED, "table"), (MIXED, PARABOLA, "table"), (PARABOLA, CIRCLE, "table"),
                                 ((2, 3, -5, 0, 0, 0), (1, 1, -5, 0, 0, 0), "table")):
            self.assertEqual(self.check(one, other, [], []), word)
        definite, other, third = (1, 1, 1, 0, 0, 0), (1, 1, -3, 0, 0, 0), (3, 5, 7, 0, 0, 0)
        self.assertEqual(alike_by(definite, (1, 1, 1, 1, 1, 1)), ("alike", [0, 2]))
        self.assertEqual(alike_by(other, (1, 1, -2, 0, 0, 1)), ("alike", [2, 3]))
        self.assertIn(alike_by(definite, other), (("place", 0), ("place", 3)))
        self.assertIn(alike_by(definite, CIRCLE), (("place", 0), ("place", 2)))
        self.assertIn(alike_by(CIRCLE, definite), (("place", 0), ("place", 2)))
        self.assertIn(alike_by(third, definite), (("place", 2), ("place", 7)))

    def test_points_of_one_turn_to_points_of_the_other(self):
        for one, other in itertools.product(CURVES, repeat=2):
            table = alike_by(one, other)[1]
            for point in CURVES[other]:
                self.assertEqual(worth_by_hand(one, turned_by_hand(table, point)), 0, (one, other))

    def test_all_with_points(self):
        for one, other in itertools.product(CURVES, repeat=2):
            self.check(one, other, [], [])

    def test_a_sum_and_itself(self):
        for three in plain_triples(5)[::3]:
            total = (*three, 0, 0, 0)
            bad = bad_by_trial(*three)
            for times in (1, -1, 2, 7, -20):
                self.check_both_ways(total, stretched_by(total, times), bad, bad)
        for total, times in itertools.product(CURVES, (1, -1, 3, -10)):
            self.check_both_ways(total, stretched_by(total, times), [], [])

    def test_plain_ones(self):
        words = []
        threes = plain_triples(7)
        bads = {three: bad_by_trial(*three) for three in threes}
        for one, other in zip(threes[::3], threes[::-4] + threes[::5]):
            words.append(self.check((*one, 0, 0, 0), (*other, 0, 0, 0), bads[one], bads[other]))
            self.check((*other, 0, 0, 0), (*one, 0, 0, 0), bads[other], bads[one])
        for word in ("table", "place", "alike"):
            self.assertGreater(words.count(word), 5, word)

    def test_all_plain_ones_with_the_same_bad_places(self):
        groups = {}
        for three in plain_triples(11)[::2]:
            groups.setdefault(tuple(bad_by_trial(*three)), []).append(three)
        self.assertGreater(len(groups), 10)
        for bad, threes in groups.items():
            for one, other in zip(threes[::3], threes[1:]):
                self.check((*one, 0, 0, 0), (*other, 0, 0, 0), [*bad], [*bad])
        for (bad, threes), (another, others) in itertools.combinations(groups.items(), 2):
            self.check_both_ways((*threes[0], 0, 0, 0), (*others[-1], 0, 0, 0), [*bad], [*another])

    def test_tables_and_scales(self):
        threes = plain_triples(3)
        for one, other in itertools.product(threes[::7], threes[::9]):
            for table, another, scale in zip(TABLES, TABLES[::-1], (1, -1, 2, -3)):
                changed = changed_by_hand((*one, 0, 0, 0), table)
                self.check_both_ways(changed, stretched_by(changed_by_hand((*other, 0, 0, 0), another), scale),
                                     bad_by_trial(*one), bad_by_trial(*other))

    def test_a_hundred_either_way(self):
        numbers = drawn(5)
        words = []
        for time in range(150):
            one, other = drawn_sum(numbers, 100), drawn_sum(numbers, 100)
            if size_by_hand(one) != 0 and size_by_hand(other) != 0:
                words.append(self.check_drawn(one, other))
        self.assertIn("place", words)
        self.assertIn("table", words)
        # These all go through (0, 0, 1).
        through = [*itertools.product((100, -99), (97, -100), (0,), (100, 83), (-95, 0), (89, 1))]
        for one, other in zip(through, through[5:]):
            self.check_both_ways(one, other, [], [])

    # Whatever is told is held against the sums by itself: a table must change the one to the other.
    def check_drawn(self, one, other):
        told = alike_by(one, other)
        if told[0] == "table":
            self.check_table(one, other, told)
        elif told[0] == "place":
            self.assertEqual(alike_by(other, one)[0], "place", (one, other))
        else:
            self.assertEqual(told, alike_by(other, one), (one, other))
        return told[0]

    def test_refusals(self):
        for flat, other in itertools.product(FLAT, (CIRCLE, (1, 1, 1, 0, 0, 0), (1, 2, 3, 4, 5, 6))):
            for pair in ((flat, other), (other, flat)):
                with self.assertRaises(Flat) as refused:
                    alike_by(*pair)
                self.assertTrue(is_vertex(flat, refused.exception.vertex), flat)
                refused.exception.vertex = None
        # No two of these have a vertex in common.
        apart = ((1, 1, 0, 0, 0, 0), (0, 1, 1, 0, 0, 0), (1, 0, 1, 0, 0, 0), (1, 2, 3, 5, 4, 3))
        for one, other in itertools.permutations(apart, 2):
            with self.assertRaises(Flat) as refused:
                alike_by(one, other)
            self.assertTrue(is_vertex(one, refused.exception.vertex), (one, other))

    def test_what_is_told_is_the_askers_own(self):
        pair = ((1, 1, -3, 0, 0, 0), (1, 1, -2, 0, 0, 1))
        told = alike_by(*pair)
        told[1].append(99)
        told[1][0] = 77
        self.assertEqual(alike_by(*pair), ("alike", [2, 3]))
        for one, other in (pair, (CIRCLE, MIXED), (CIRCLE, CIRCLE), (CIRCLE, (1, 1, 1, 0, 0, 0))):
            first, second = alike_by(one, other), alike_by(one, other)
            self.assertIsNot(first, second)
            for part, same in zip(first, second):
                if isinstance(part, (tuple, list)):
                    self.assertIsNot(part, same)
        for row, same in zip(alike_by(CIRCLE, MIXED)[1], alike_by(CIRCLE, MIXED)[1]):
            self.assertIsNot(row, same)


if __name__ == "__main__":
    unittest.main()
