import unittest

from conicplaces.errors import NoSign
from conicplaces.signs import power_by, sign_by
from trial import ODD, TEN, primes_of, squares_by

# The two greatest primes below 10 ** 12, and the primes next to 10 ** 6.
GREAT = (999999999961, 999999999989)
NEAR = (999979, 999983, 1000003)


def sign_by_trial(number, prime):
    if number % prime == 0:
        return 0
    return 1 if number % prime in squares_by(prime) else -1


def sign_by_power(number, prime):
    power = pow(number % prime, (prime - 1) // 2, prime)
    return -1 if power == prime - 1 else power


def product_of(signs):
    product = 1
    for sign in signs:
        product *= sign
    return product


class Power(unittest.TestCase):
    def check(self, number, k, n):
        told = power_by(number, k, n)
        self.assertIs(type(told), int)
        self.assertEqual(told, pow(number, k, n), (number, k, n))

    def test_known(self):
        self.assertEqual(power_by(3, 4, 7), 4)
        self.assertEqual(power_by(-2, 3, 7), 6)
        self.assertEqual(power_by(0, 5, 7), 0)
        self.assertEqual(power_by(2, 10, 1000), 24)

    def test_all_small_ones_by_multiplying(self):
        for n in range(1, 25):
            for number in range(-n - 2, 2 * n):
                product = 1
                for k in range(9):
                    self.assertEqual(power_by(number, k, n), product % n, (number, k, n))
                    product *= number

    def test_no_factor(self):
        for number in (0, 1, -1, 12, TEN, -TEN):
            self.assertEqual(power_by(number, 0, 1), 0)
            for n in (2, 3, 12, TEN):
                self.assertEqual(power_by(number, 0, n), 1)

    def test_one_factor(self):
        for number in (0, 1, -1, 12, TEN, -ODD):
            for n in (1, 2, 9, 12, ODD):
                self.assertEqual(power_by(number, 1, n), number % n)

    def test_by_one(self):
        for k in (0, 1, 2, 3, TEN):
            for number in (-5, -1, 0, 1, 5, TEN):
                told = power_by(number, k, 1)
                self.assertEqual((told, type(told)), (0, int))

    def test_great_k(self):
        for k in (TEN, ODD, TEN - 1, 2 ** 990, 2 ** 990 - 1):
            self.assertLessEqual(len(str(k)), 300)
            for number in (2, -2, 3, 10, -1, 0, 1):
                for n in (2, 7, 12, 1000, GREAT[0], TEN + 7, ODD):
                    self.check(number, k, n)

    def test_300_figures(self):
        for number in (TEN, -TEN, ODD, -ODD):
            for k in (0, 1, 2, 5, 101, ODD):
                for n in (1, 2, 97, 10 ** 12, TEN - 1, ODD):
                    self.check(number, k, n)


class Sign(unittest.TestCase):
    def check(self, number, n, sign):
        told = sign_by(number, n)
        self.assertIs(type(told), int)
        self.assertEqual(told, sign, (number, n))

    def check_refused(self, number, n):
        with self.assertRaises(NoSign):
            sign_by(number, n)

    def test_known(self):
        self.check(2, 7, 1)
        self.check(3, 7, -1)
        self.check(7, 7, 0)
        self.check(-1, 3, -1)
        self.check(-1, 5, 1)
        # 1 by a number that is no prime, and yet there is no root.
        self.check(2, 15, 1)

    def test_by_one(self):
        for number in (0, 1, -1, 2, 12, TEN, -ODD):
            self.check(number, 1, 1)

    def test_odd_primes_against_all_squares(self):
        for prime in (p for p in range(3, 110) if primes_of(p) == (p,)):
            for number in range(-prime - 3, 2 * prime):
                self.check(number, prime, sign_by_trial(number, prime))

    def test_all_small_odd_numbers(self):
        # Among them products, and numbers with a prime more than once.
        for n in range(1, 240, 2):
            primes = primes_of(n)
            for number in range(-n - 1, n + 2):
                self.check(number, n, product_of(sign_by_trial(number, p) for p in primes))

    def test_a_prime_more_than_once(self):
        self.check(2, 9, 1)
        self.check(2, 27, -1)
        self.check(3, 9, 0)
        self.check(6, 27, 0)
        self.check(2, 3 ** 25, -1)
        self.check(2, 3 ** 24, 1)
        self.check(-1, 7 ** 13, -1)
        self.check(2, 3 * 5 * 5, -1)

    def test_nought(self):
        for n in (3, 9, 15, GREAT[0], 3 ** 25):
            self.check(0, n, 0)
            self.check(n, n, 0)
            self.check(-TEN * n, n, 0)

    def test_primes_near_the_bound(self):
        for prime in GREAT:
            for number in [*range(-60, 61), prime - 1, prime + 2, 10 ** 6, TEN, -TEN, ODD, -ODD, TEN * prime]:
                self.check(number, prime, sign_by_power(number, prime))

    def test_products_near_the_bound(self):
        for primes in ((NEAR[1], NEAR[2]), (NEAR[0], NEAR[1]), (NEAR[1], NEAR[1]), (3, 5, 7, 11, 13, 17, 19, 23, 29),
                       (9973, 9967, 9949), (3, 3, 5, 5, 7, 9973, 59999), tuple([5] * 17), (3, GREAT[0])):
            n = 1
            for prime in primes:
                n *= prime
            for number in [*range(-40, 41), primes[0], -primes[-1] * 2, n - 1, n + 2, TEN, -TEN, ODD, -ODD + 1]:
                self.check(number, n, product_of(sign_by_power(number, p) for p in primes))

    def test_even(self):
        for n in (2, 4, 6, 10, 2 * GREAT[0], 10 ** 12):
            for number in (0, 1, -1, 3, n, TEN):
                self.check_refused(number, n)

    def test_below_one(self):
        for n in (0, -1, -2, -3, -9, -15, -GREAT[0]):
            for number in (0, 1, -1, 2, 3, TEN):
                self.check_refused(number, n)


if __name__ == "__main__":
    unittest.main()
