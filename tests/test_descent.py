import itertools
import unittest

from conicplaces.descent import pair_point
from conicplaces.errors import NotPlain
from trial import NEAR, core_by_hand, is_lowest, lowest_by_hand, primes_of, rests_fit

SMALL = [number for number in range(-33, 34) if number != 0 and core_by_hand(number) == number]
# Products of six and seven small primes.
MANY = (510510, -690690, 746130, -870870, 881790, -930930, 39270, -43890, 30030)
GREAT = (*NEAR, *[-prime for prime in NEAR], *MANY, 999997, -999994, 2 * 499979, -3 * 333323)
NO_PAIRS = ((0, 1), (1, 0), (0, 0), (0, -5), (-7, 0), (4, 1), (1, 4), (-4, 1), (1, -4), (4, -4), (9, 9), (5, -9),
            (-12, 7), (7, 12), (50, 1), (1, 98), (-1, -4), (-4, -1), (3, 3 * 49), (0, 4), (4, 0), (2, 997 ** 2),
            (997 ** 2, 3), (10 ** 6, 3), (-3, -10 ** 6), (999999, 1), (1, -999999), (8, 27), (-8, -16),
            (10 ** 6, 10 ** 6))


def is_last(a, b):
    return a == 1 or b == 1 or a + b == 0


def has_no_square(number):
    return number != 0 and core_by_hand(number) == number


def fit_at(a, b, prime):
    """Whether rests fit by 16, or by the square of an odd prime: all of them tried, or, by a great prime, Euler's power
    of what must then have a root by it."""
    if prime < 20:
        return rests_fit(a, b, -1, prime, 4 if prime == 2 else 2)
    if a % prime == 0 and b % prime == 0:
        asked = -(a // prime) * (b // prime)
    elif b % prime == 0:
        asked = a
    elif a % prime == 0:
        asked = b
    else:
        return True
    return pow(asked, (prime - 1) // 2, prime) == 1


def points_back(a, b, steps):
    """All points that may be told, one for each kind that the last pair is of."""
    if steps == []:
        kinds = ((a == 1, (1, 1, 0)), (b == 1, (1, 0, 1)), (a + b == 0, (0, 1, 1)))
        return [point for right, point in kinds if right]
    if steps[0] == ("turn",):
        return [(x, z, y) for x, y, z in points_back(b, a, steps[1:])]
    word, w, c, u = steps[0]
    return [(w * x + a * y, x + w * y, c * u * z) for x, y, z in points_back(a, c, steps[1:])]


class PairPoint(unittest.TestCase):
    def check_step(self, a, b, step):
        """Tells the pair that the step leads to."""
        self.assertIs(type(step), tuple)
        self.assertFalse(is_last(a, b), (a, b, step))
        if step == ("turn",):
            return (b, a)
        self.assertEqual([type(part) for part in step], [str, int, int, int])
        word, w, c, u = step
        self.assertEqual(word, "down")
        self.assertTrue(has_no_square(c), (a, b, step))
        self.assertGreaterEqual(u, 1, (a, b, step))
        self.assertEqual(w * w - a, b * c * u * u, (a, b, step))
        self.assertLess(abs(c), abs(b), (a, b, step))
        return (a, c)

    def check_point(self, a, b, told):
        self.assertEqual([type(part) for part in told], [str, tuple, list])
        word, point, steps = told
        self.assertTrue(is_lowest(point), (a, b, point))
        x, y, z = point
        self.assertEqual(x * x, a * y * y + b * z * z, (a, b, point))
        self.assertLessEqual(len(steps), 200, (a, b))
        pair = (a, b)
        for step in steps:
            pair = self.check_step(*pair, step)
        self.assertTrue(is_last(*pair), (a, b, steps))
        self.assertIn(point, [lowest_by_hand(made) for made in points_back(a, b, steps)], (a, b, steps))

    def check_none(self, a, b, told):
        self.assertEqual([type(part) for part in told], [str, int])
        word, place = told
        if place == 0:
            self.assertTrue(a < 0 and b < 0, (a, b))
        else:
            self.assertEqual(primes_of(place), (place,), (a, b))
            self.assertFalse(fit_at(a, b, place), (a, b, place))

    def check(self, a, b):
        told = pair_point(a, b)
        self.assertIs(type(told), tuple)
        self.assertIn(told[0], ("point", "none"))
        if told[0] == "point":
            self.check_point(a, b, told)
        else:
            self.check_none(a, b, told)
        return told[0]

    def test_known(self):
        for pair in ((2, 2), (5, -1), (-1, 5), (3, -2), (7, 2), (13, -1), (6, 10), (41, -2), (-5, 6), (-7, 11)):
            self.assertEqual(self.check(*pair), "point", pair)
        for pair in ((-1, -1), (2, 3), (3, 3), (-1, 3), (5, 2), (-2, -7), (7, -1), (6, 6), (2, 5), (-5, -6), (21, 2)):
            self.assertEqual(self.check(*pair), "none", pair)

    def test_all_small_pairs(self):
        told = [self.check(*pair) for pair in itertools.product(SMALL, repeat=2)]
        self.assertGreater(told.count("point"), 300)
        self.assertGreater(told.count("none"), 300)

    def test_known_places(self):
        for pair, place in (((2, 3), (2, 3)), ((2, 5), (2, 5)), ((-1, 3), (2, 3)), ((-1, 7), (2, 7)), ((6, 6), (2, 3))):
            self.assertIn(pair_point(*pair)[1], place, pair)
        for pair in ((-1, -1), (-1, -2), (-2, -2)):
            self.assertIn(pair_point(*pair)[1], (0, 2), pair)

    def test_last_pairs_at_once(self):
        for number in (*SMALL, *GREAT):
            for pair in ((1, number), (number, 1), (number, -number)):
                self.assertEqual(self.check(*pair), "point")
                self.assertEqual(pair_point(*pair)[2], [], pair)

    def test_great_pairs(self):
        told = [self.check(*pair) for pair in itertools.product(GREAT, repeat=2)]
        self.assertIn("point", told)
        self.assertGreater(told.count("none"), 200)

    def test_great_with_small(self):
        for one, other in itertools.product(GREAT, (-1, 2, -3, 5, -6, 7, 30, -210)):
            self.check(one, other)
            self.check(other, one)

    def test_great_pairs_with_a_point(self):
        # With a yy taken from xx there is a point.
        longest = 0
        for a, x, y in itertools.product(GREAT, (1, 30, 577, 998, 1000), (1, 2, 37)):
            b = core_by_hand(x * x - a * y * y)
            if abs(b) <= 10 ** 6:
                self.assertEqual(self.check(a, b), "point", (a, b))
                self.assertEqual(self.check(b, a), "point", (b, a))
                longest = max(longest, len(pair_point(a, b)[2]))
        self.assertGreater(longest, 8)

    def test_primes_with_a_point(self):
        # Which primes are xx + yy, xx - 2 yy and xx + 2 yy is told by their rests by 4 and 8.
        primes = [number for number in range(10 ** 6 - 700, 10 ** 6) if primes_of(number) == (number,)]
        self.assertGreater(len(primes), 40)
        for prime in primes:
            self.assertEqual(self.check(-1, prime), "point" if prime % 4 == 1 else "none", prime)
            self.assertEqual(self.check(prime, 2), "point" if prime % 8 in (1, 7) else "none", prime)
            self.assertEqual(self.check(prime, -2), "point" if prime % 8 in (1, 3) else "none", prime)

    def test_a_prime_in_common(self):
        told = []
        for shared, one, other in itertools.product((2, 3, 5, 14, 997, 30), (1, -1, 11, -13, 17), (-1, 19, -23, 29)):
            told.append(self.check(shared * one, shared * other))
            told.append(self.check(-shared * one, shared * other))
        self.assertGreater(told.count("point"), 10)
        self.assertGreater(told.count("none"), 10)

    def test_the_two_alike(self):
        # There xx = a (yy + zz).
        for number in (*SMALL, *GREAT):
            right = number > 0 and all(prime % 4 != 3 for prime in primes_of(number))
            self.assertEqual(self.check(number, number), "point" if right else "none", number)

    def test_what_is_no_pair(self):
        for pair in NO_PAIRS:
            with self.assertRaises(NotPlain, msg=pair):
                pair_point(*pair)

    def test_what_is_told_is_the_askers_own(self):
        for pair in ((1, 1), (2, 2), (7, 2), (41, -2), (NEAR[2], 17), (-1, 5), (5, -1)):
            told, other = pair_point(*pair), pair_point(*pair)
            self.assertIsNot(told, other)
            self.assertIsNot(told[1], other[1])
            self.assertIsNot(told[2], other[2])
            for step, other_step in itertools.product(told[2], other[2]):
                self.assertIsNot(step, other_step)
            for step, other_step in itertools.combinations(told[2], 2):
                self.assertIsNot(step, other_step)
            told[2].reverse()
            told[2].append(("turn",))
            other[2].clear()
            self.assertEqual(self.check(*pair), "point")
        self.assertIsNot(pair_point(-1, -1), pair_point(-1, -1))


if __name__ == "__main__":
    unittest.main()
