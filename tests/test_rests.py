import math
import unittest

from conicplaces.errors import NoBack, NoJoin
from conicplaces.rests import back_by, joined_rests
from trial import ODD, TEN


class Back(unittest.TestCase):
    def check(self, number, n):
        told = back_by(number, n)
        self.assertIs(type(told), int)
        self.assertTrue(0 <= told < n, (number, n))
        self.assertEqual((told * number - 1) % n, 0, (number, n))

    def check_refused(self, number, n, shared):
        with self.assertRaises(NoBack) as refused:
            back_by(number, n)
        self.assertIs(type(refused.exception.shared), int)
        self.assertEqual(refused.exception.shared, shared, (number, n))

    def test_by_one(self):
        for number in (0, 1, -1, 2, 17, -17, TEN, -TEN):
            self.assertEqual(back_by(number, 1), 0)

    def test_known(self):
        self.assertEqual(back_by(3, 7), 5)
        self.assertEqual(back_by(-3, 7), 2)
        self.assertEqual(back_by(10, 7), 5)
        self.assertEqual(back_by(1, 2), 1)

    def test_all_small_ones(self):
        # Below 0, 0, above n; primes, powers of primes and products alike.
        for n in range(1, 80):
            for number in range(-2 * n - 1, 2 * n + 2):
                shared = max(d for d in range(1, n + 1) if n % d == 0 and number % d == 0)
                if shared == 1:
                    self.check(number, n)
                else:
                    self.check_refused(number, n, shared)

    def test_nought_above_one(self):
        for n in (2, 3, 4, 6, 97, TEN, ODD):
            self.check_refused(0, n, n)
            self.check_refused(n, n, n)
            self.check_refused(-3 * n, n, n)

    def test_300_figures(self):
        self.assertEqual((len(str(TEN)), len(str(ODD))), (300, 300))
        for number, n in ((TEN, ODD), (ODD, TEN), (TEN - 1, TEN), (7, TEN), (TEN + 1, 7), (TEN, TEN + 1)):
            self.check(number, n)
            self.check(-number, n)

    def test_300_figures_refused(self):
        great = 7 ** 236
        one, other = great * 10 ** 100, great * 3 ** 209
        for number in (one, -one):
            self.check_refused(number, other, great)
        for number in (other, -other):
            self.check_refused(number, one, great)
        self.check_refused(6, ODD, 3)
        self.check_refused(ODD, 6, 3)


class Join(unittest.TestCase):
    def check(self, r, n, s, m):
        told = joined_rests(r, n, s, m)
        self.assertIs(type(told), tuple)
        self.assertEqual([type(part) for part in told], [int, int])
        x, least = told
        self.assertEqual(least, math.lcm(n, m), (r, n, s, m))
        self.assertTrue(0 <= x < least, (r, n, s, m))
        self.assertEqual(((x - r) % n, (x - s) % m), (0, 0), (r, n, s, m))

    def check_refused(self, r, n, s, m, shared):
        with self.assertRaises(NoJoin) as refused:
            joined_rests(r, n, s, m)
        self.assertIs(type(refused.exception.shared), int)
        self.assertEqual(refused.exception.shared, shared, (r, n, s, m))

    def test_known(self):
        self.assertEqual(joined_rests(2, 3, 3, 5), (8, 15))
        self.assertEqual(joined_rests(1, 4, 3, 6), (9, 12))
        self.assertEqual(joined_rests(-1, 4, -1, 6), (11, 12))

    def test_all_small_ones(self):
        # Nothing in common, the one dividing the other, alike, a part in common, 1; rests below 0 and beyond.
        for n in range(1, 13):
            for m in range(1, 13):
                shared = max(d for d in range(1, n + 1) if n % d == 0 and m % d == 0)
                for r in range(-n - 1, 2 * n + 1):
                    for s in range(-m - 1, 2 * m + 1):
                        if (r - s) % shared == 0:
                            self.check(r, n, s, m)
                        else:
                            self.check_refused(r, n, s, m, shared)

    def test_by_one(self):
        self.assertEqual(joined_rests(5, 1, -7, 1), (0, 1))
        self.assertEqual(joined_rests(5, 1, -7, 10), (3, 10))
        self.assertEqual(joined_rests(25, 10, TEN, 1), (5, 10))

    def test_alike(self):
        self.assertEqual(joined_rests(3, 12, 27, 12), (3, 12))
        self.check_refused(3, 12, 4, 12, 12)

    def test_300_figures(self):
        for r, s in ((0, 0), (1, 2), (-1, -2), (ODD, TEN), (-TEN, ODD), (TEN - 1, 5)):
            self.check(r, TEN, s, ODD)
            self.check(r, ODD, s, TEN)
            self.check(r, TEN, s, 7)

    def test_300_figures_with_a_part_in_common(self):
        great = 7 ** 236
        one, other = great * 10 ** 100, great * 3 ** 209
        for r, s in ((0, 0), (5, 5 + great), (5 - 3 * great, 5), (TEN, TEN + great * 11 ** 50)):
            self.check(r, one, s, other)
            self.check(r, other, s, one)
            self.check_refused(r, one, s + 1, other, great)
            self.check_refused(r, other, s - great // 7, one, great)

    def test_each_tuple_is_a_new_one(self):
        for r, n, s, m in ((0, 1, 0, 1), (2, 3, 3, 5), (0, 2, 0, 2)):
            self.assertIsNot(joined_rests(r, n, s, m), joined_rests(r, n, s, m))


if __name__ == "__main__":
    unittest.main()
