import itertools
import unittest

from conicplaces.errors import Flat
from conicplaces.plains import plain_of
from conicplaces.sums import size_of
from trial import changed_by_hand, is_vertex, measure_by_hand, plain_by_trial, plain_triples


class Plain(unittest.TestCase):
    def check(self, total):
        told = plain_of(total)
        self.assertEqual([type(part) for part in told], [tuple, int, tuple], total)
        self.assertIs(type(told), tuple)
        table, scale, three = told
        self.assertEqual([type(row) for row in table], [tuple, tuple, tuple], total)
        numbers = [number for row in table for number in row] + [*three]
        self.assertEqual([type(number) for number in numbers], [int] * 12, total)
        self.assertNotEqual(measure_by_hand(table), 0, total)
        self.assertNotEqual(scale, 0, total)
        self.assertTrue(plain_by_trial(*three), (total, three))
        self.assertLessEqual(max(abs(number) for number in three), 10 ** 10, total)
        a, b, c = three
        self.assertEqual(changed_by_hand(total, table), (scale * a, scale * b, scale * c, 0, 0, 0), total)

    def check_flat(self, total):
        with self.assertRaises(Flat) as refused:
            plain_of(total)
        self.assertTrue(is_vertex(total, refused.exception.vertex), total)

    def check_either(self, total):
        if size_of(total) == 0:
            self.check_flat(total)
        else:
            self.check(total)

    def test_all_six(self):
        for total in ((1, 2, 3, 4, 5, 6), (-1, 2, -3, 4, -5, 6), (7, -11, 13, -17, 19, -23), (99, 98, -97, 96, 95, -94),
                      (2, 2, 2, 1, 1, 1), (-50, -60, -70, 10, 20, 30)):
            self.check(total)

    def test_noughts_in_the_first_three_places(self):
        self.check((0, 0, 0, 1, 1, 1))
        for mixed in itertools.product((-100, -6, -1, 0, 1, 4, 97), repeat=3):
            self.check_either((0, 0, 0, *mixed))

    def test_noughts_in_some_places(self):
        for places in itertools.product((0, 1), repeat=6):
            for numbers in ((3, -5, 7, 11, -13, 17), (100, 99, -98, 97, 96, 95), (1, 1, -1, 2, 2, -2)):
                self.check_either(tuple(place * number for place, number in zip(places, numbers)))

    def test_where_curve_and_axes_meet_on_the_line_of_the_slopes(self):
        # There each crossing of an axis with the slopes' line at the first corner is on the curve, or is three noughts.
        for total in ((1, 0, 0, 5, 0, 0), (0, 3, 0, 0, -7, 0), (0, 0, -2, 0, 0, 100), (-100, 0, 0, 99, 0, 0),
                      (1, 1, 0, -100, 0, 2), (1, 0, 1, 37, 2, 0), (-100, -4, 0, 5, 0, 40), (-1, 0, -1, -3, 2, 0)):
            self.check(total)

    def test_plain_already(self):
        for three in plain_triples(6):
            self.check((*three, 0, 0, 0))

    def test_squares_and_parts_in_common(self):
        for three in itertools.product((1, -2, 4, 6, -9, 12, 30, -100), repeat=3):
            self.check((*three, 0, 0, 0))
        for total in ((4, 8, 12, 16, 20, 24), (9, -18, 27, 36, 45, -54), (6, 10, 15, 0, 0, 0),
                      (100, 100, 100, 100, 0, 0), (0, 0, 0, 60, 84, 90), (72, 50, 98, 0, 0, 60)):
            self.check(total)

    def test_all_small_ones(self):
        for total in itertools.product((-2, -1, 0, 1), (-1, 0, 3), (-1, 0, 1, 2), (-3, 0, 1), (-1, 0, 2), (0, 1, -4)):
            self.check_either(total)

    def test_a_hundred_either_way(self):
        for total in itertools.product((100, -100), repeat=6):
            self.check_either(total)
        for total in itertools.product((100, -99), (-100, 97), (91, -100), (100, -89), (-95, 100), (0, 83)):
            self.check_either(total)
            self.check_either(total[::-1])

    def test_flat(self):
        for total in ((0, 0, 0, 0, 0, 0), (1, 0, 0, 0, 0, 0), (0, 0, -100, 0, 0, 0), (1, 1, 0, 0, 0, 2),
                      (0, 0, 0, 0, 0, 1), (0, 0, 0, 7, -100, 0), (1, -1, 0, 0, 0, 0), (4, 9, 25, 30, 20, 12),
                      (1, 2, 3, 5, 4, 3), (100, 0, 0, 0, -100, 100), (-1, -1, 0, 0, 0, 0)):
            self.check_flat(total)

    def test_each_told_is_a_new_one(self):
        for total in ((1, 1, -1, 0, 0, 0), (2, 3, -5, 0, 0, 0), (0, 0, 0, 1, 1, 1)):
            one, other = plain_of(total), plain_of(total)
            self.assertIsNot(one, other)
            self.assertIsNot(one[0], other[0])
            self.assertIsNot(one[2], other[2])
            for row, other_row in zip(one[0], other[0]):
                self.assertIsNot(row, other_row)
            self.check(total)

    def test_a_changed_refusal_changes_no_other(self):
        for total in ((0, 0, 0, 0, 0, 0), (1, 1, 0, 0, 0, 0)):
            with self.assertRaises(Flat) as refused:
                plain_of(total)
            refused.exception.vertex = None
            self.check_flat(total)


if __name__ == "__main__":
    unittest.main()
