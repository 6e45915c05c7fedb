import itertools
import unittest

from conicplaces.curves import bad_of, point_or_place
from conicplaces.errors import Flat
from conicplaces.plains import plain_of
from trial import bad_by_trial, changed_by_hand, fits_by_all_rests, is_lowest, is_one_signed, is_vertex, plain_triples
from trial import primes_of, product_sum, size_by_hand, worth_by_hand

FLAT = ((0, 0, 0, 0, 0, 0), (1, 0, 0, 0, 0, 0), (0, 0, -100, 0, 0, 0), (1, 1, 0, 0, 0, 0), (1, 0, -2, 0, 0, 0),
        (1, -1, 0, 0, 0, 0), (0, 0, 0, 0, 0, 1), (0, 0, 0, 7, -100, 0), (1, 1, 0, 0, 0, 2), (4, 9, 25, 30, 20, 12),
        (1, 2, 3, 5, 4, 3), (-1, -1, 0, 0, 0, -1), (100, 0, 0, 0, -100, 100), (3, 3, 0, 0, 0, 0),
        (-100, -100, 0, 0, 0, 200), (1, 1, 1, 2, 2, 2), (0, 7, 7, 0, 0, 0), (2, 0, 2, 0, 1, 0))
# All six coefficients of each are others than 0.
FULL = ((1, 2, 3, 4, 5, 6), (-1, 2, -3, 4, -5, 6), (7, -11, 13, -17, 19, -23), (99, 98, -97, 96, 95, -94),
        (2, 2, 2, 1, 1, 1), (-50, -60, -70, 10, 20, 30), (1, 1, -1, 1, 1, 1), (100, -99, 98, -97, 96, -95),
        (-89, 83, -79, 73, 71, 67),
        (3, 3, -7, 1, -1, 1), (5, 7, 11, -2, 3, -1), (-100, -100, -100, 99, 99, 99))


class Curves(unittest.TestCase):
    def check_point(self, total, told):
        self.assertEqual([type(part) for part in told], [str, tuple])
        self.assertEqual(told[0], "point", total)
        self.assertTrue(is_lowest(told[1]), (total, told))
        self.assertEqual(worth_by_hand(total, told[1]), 0, (total, told))

    def check_bad(self, total):
        told = bad_of(total)
        self.assertIs(type(told), list)
        self.assertEqual([type(place) for place in told], [int] * len(told))
        self.assertEqual(told, bad_by_trial(*plain_of(total)[2]), total)
        self.assertEqual(told, sorted(set(told)), total)
        self.assertEqual(len(told) % 2, 0, total)
        self.assertEqual(0 in told, is_one_signed(total), total)
        return told

    def check_flat(self, total):
        with self.assertRaises(Flat) as refused:
            bad_of(total)
        self.assertTrue(is_vertex(total, refused.exception.vertex), total)
        self.check_point(total, point_or_place(total))

    def check(self, total):
        if size_by_hand(total) == 0:
            self.check_flat(total)
            return "flat"
        bad = self.check_bad(total)
        told = point_or_place(total)
        self.assertIs(type(told), tuple)
        if bad == []:
            self.check_point(total, told)
        else:
            self.assertEqual([type(part) for part in told], [str, int])
            self.assertEqual(told[0], "place", total)
            self.assertIn(told[1], bad, total)
        return told[0]

    def check_all_rests(self, total, primes):
        bad = bad_of(total)
        self.assertLessEqual(set(bad), {0, *primes_of(abs(2 * size_by_hand(total)))}, total)
        for prime in primes:
            self.assertEqual(prime in bad, not fits_by_all_rests(total, prime), (total, prime))

    def test_known(self):
        for total in ((2, 3, -5, 0, 0, 0), (1, 1, -1, 0, 0, 0), (0, 0, 0, 1, 1, 1), (0, 1, 0, 0, -1, 0),
                      (1, 1, -5, 0, 0, 0), (0, -1, 0, 0, 1, 0), (1, 1, -1, 1, 0, 0)):
            self.assertEqual(self.check(total), "point", total)
            self.assertEqual(bad_of(total), [])
        for total, bad in (((1, 1, 1, 0, 0, 0), [0, 2]), ((1, 1, -3, 0, 0, 0), [2, 3]), ((-1, -1, -3, 0, 0, 0), [0, 3]),
                           ((1, 1, 1, 1, 1, 1), [0, 2]), ((1, 1, -2, 0, 0, 1), [2, 3]), ((3, 5, 7, 0, 0, 0), [0, 7]),
                           ((4, 4, -12, 0, 0, 0), [2, 3])):
            self.assertEqual(self.check(total), "place", total)
            self.assertEqual(bad_of(total), bad, total)

    def test_flat(self):
        for total in FLAT:
            self.check_flat(total)

    def test_all_products_of_two_small_lines(self):
        lines = list(itertools.product((-2, 0, 1, 3), repeat=3))
        for one, other in itertools.combinations_with_replacement(lines, 2):
            self.check_flat(product_sum(one, other))

    def test_all_six(self):
        told = [self.check(total) for full in FULL for total in [*itertools.permutations(full)][::7]]
        self.assertGreater(told.count("point"), 100)
        self.assertGreater(told.count("place"), 100)

    def test_plain_already(self):
        told = [self.check((*three, 0, 0, 0)) for three in plain_triples(7)]
        self.assertGreater(told.count("point"), 50)
        self.assertGreater(told.count("place"), 50)
        for three in plain_triples(7):
            self.assertEqual(bad_of((*three, 0, 0, 0)), bad_by_trial(*three))

    def test_all_small_ones(self):
        told = [self.check(total) for total in
                itertools.product((-2, -1, 0, 1), (-1, 0, 3), (-1, 0, 1, 2), (-3, 0, 1), (-1, 0, 2), (0, 1, -4))]
        for word in ("point", "place", "flat"):
            self.assertGreater(told.count(word), 50)

    def test_a_hundred_either_way(self):
        for total in itertools.product((100, -100), repeat=6):
            self.check(total)
        told = []
        for total in itertools.product((100, -99), (-100, 97), (91, -100), (100, -89), (-95, 100), (0, 83)):
            told += [self.check(total), self.check(total[::-1])]
        self.assertIn("point", told)
        self.assertIn("place", told)

    def test_against_all_rests(self):
        for total in itertools.product((1, -2, 3, 5), (-1, 2, 6), (0, 3, -5, 4), (1, 0, -3), (0, 2), (0, -1, 4)):
            if size_by_hand(total) != 0:
                self.check_all_rests(total, (2, 3, 5, 7))

    def test_great_ones_against_all_rests(self):
        for total in (*FULL, (100, 100, -100, 0, 0, 0), (96, -72, 48, 0, 24, 0), (81, 54, -27, 0, 0, 9),
                      (0, 0, 0, 50, 75, -100)):
            self.check_all_rests(total, (2, 3, 5))

    def test_tables_and_scales_change_no_bad_places(self):
        tables = (((1, 1, 0), (0, 1, -1), (0, 0, 1)), ((0, 1, 0), (2, 0, 1), (0, 1, -3)),
                  ((1, 2, 1), (1, -1, 0), (3, 0, 2)))
        for three in plain_triples(3):
            for table in tables:
                changed = changed_by_hand((*three, 0, 0, 0), table)
                for scale in (1, -1, 2, 3):
                    total = tuple(scale * number for number in changed)
                    self.assertEqual(self.check_bad(total), bad_by_trial(*three), total)
                    self.check(total)

    def test_what_is_told_is_the_askers_own(self):
        for total in ((1, 1, -3, 0, 0, 0), (1, 1, -1, 0, 0, 0), (1, 1, 1, 1, 1, 1)):
            right = bad_of(total)
            told = bad_of(total)
            told.append(99)
            told[0] = 77
            self.assertEqual(bad_of(total), right)
            self.assertIsNot(bad_of(total), bad_of(total))
        for total in ((1, 1, -1, 0, 0, 0), (2, 3, -5, 0, 0, 0), (0, 0, 0, 0, 0, 0), (1, 1, 0, 0, 0, 0),
                      (1, 1, 1, 0, 0, 0)):
            self.assertIsNot(point_or_place(total), point_or_place(total))
            if point_or_place(total)[0] == "point":
                self.assertIsNot(point_or_place(total)[1], point_or_place(total)[1])

    def test_a_changed_refusal_changes_no_other(self):
        with self.assertRaises(Flat) as refused:
            bad_of((0, 0, 0, 0, 0, 0))
        refused.exception.vertex = None
        self.check_flat((0, 0, 0, 0, 0, 0))


if __name__ == "__main__":
    unittest.main()
