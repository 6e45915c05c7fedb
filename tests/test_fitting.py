import itertools
import unittest

from conicplaces.errors import BadPlace, NoPlace, NotPlain
from conicplaces.fitting import fitting_rests
from trial import NEAR, NOT_PLAIN, fits_by_trial, plain_by_trial, plain_triples, primes_of

PRIMES = (2, 3, 5, 7, 11, 13)
# The three greatest primes below 10 ** 4.
FAR = (9949, 9967, 9973)
POWERS = (1, 2, 3, 4, 5, 12)
NO_PRIMES = (0, 1, -1, -2, -3, -7, -9973, 4, 6, 8, 9, 10, 15, 21, 25, 27, 49, 341, 561, 97 ** 2, 89 * 97, 10 ** 4)


class Fitting(unittest.TestCase):
    def check_fits(self, three, prime, k):
        told = fitting_rests(*three, prime, k)
        self.assertIs(type(told), tuple)
        self.assertEqual([type(rest) for rest in told], [int, int, int])
        self.assertTrue(all(0 <= rest < prime ** k for rest in told), (three, prime, k, told))
        self.assertTrue(any(rest % prime != 0 for rest in told), (three, prime, k, told))
        total = sum(number * rest * rest for number, rest in zip(three, told))
        self.assertEqual(total % prime ** k, 0, (three, prime, k, told))

    def check_bad(self, three, prime, k):
        with self.assertRaises(BadPlace) as refused:
            fitting_rests(*three, prime, k)
        self.assertIs(type(refused.exception.place), int)
        self.assertEqual(refused.exception.place, prime, (three, prime, k))

    def check(self, three, prime, powers=POWERS):
        fits = fits_by_trial(*three, prime)
        for k in powers:
            if fits:
                self.check_fits(three, prime, k)
            else:
                self.check_bad(three, prime, k)
        return fits

    def test_all_small_ones(self):
        for three in plain_triples(7):
            for prime in PRIMES[:4]:
                self.check(three, prime)
            self.check(three, 11, (1, 3))
            self.check(three, 13, (2, 12))

    def test_two_with_each_rest_by_eight(self):
        # Three for each odd rest by 8, no two with a prime in common; and even ones beside two of them.
        odd = ((1, 17, 41), (3, 11, 19), (5, 13, 29), (7, 23, 31))
        told = []
        for one, other, third in itertools.product(range(4), repeat=3):
            three = (odd[one][0], odd[other][1], odd[third][2])
            for signs in itertools.product((1, -1), repeat=3):
                told.append(self.check([sign * number for sign, number in zip(signs, three)], 2))
        for one, other, even in itertools.product(range(4), range(4), (2, 6, -2, -6, 94, 202)):
            for place in range(3):
                three = [5 * odd[one][1], -7 * odd[other][2]]
                three.insert(place, even)
                told.append(self.check(three, 2))
        self.assertGreater(told.count(True), 100)
        self.assertGreater(told.count(False), 100)

    def test_two_by_every_power(self):
        for three in ((1, 1, -2), (2, 3, -5), (3, 5, -7), (1, -1, 30), (-1, 6, 7), (17, -5, 3), (1, 3, -7), (5, 7, 3)):
            for order in itertools.permutations(three):
                self.check(order, 2, range(1, 13))

    def test_odd_primes_by_every_power(self):
        for three in ((1, 1, 1), (2, 3, -5), (1, -10, 21), (-1, -1, -1), (1, 1, -1), (2, -7, 15), (3, 5, 7)):
            for order in itertools.permutations(three):
                for prime in (3, 5, 7):
                    self.check(order, prime, range(1, 13))

    def test_primes_that_divide_one_of_the_three(self):
        told = []
        for a, b, c in itertools.product((210, -143, 330, -1, 26), (1, -77, 39, 221, -30), (-1, 5, 17, -323, 14)):
            if plain_by_trial(a, b, c):
                for prime in primes_of(abs(a * b * c)):
                    told.append(self.check((a, b, c), prime))
        self.assertGreater(told.count(True), 40)
        self.assertGreater(told.count(False), 40)

    def test_great_primes_that_divide_none(self):
        for prime in FAR + (101, 103, 1009, 5003, 9901):
            for three in ((1, 1, 1), (2, 3, -5), (-1, -7, 30), (1, 1, -3), (6, -35, 11), NEAR, (-999997, 2, 15)):
                self.assertTrue(self.check(three, prime, (1, 2, 3, 12)))

    def test_great_primes_that_divide_one(self):
        told = []
        for prime in FAR + (101, 103, 1009, 5003):
            for one, other, times in itertools.product((1, -1, 2, -3, 5, 7), (1, -1, -11, 13, 17), (1, -19, 46, 97)):
                three = [one, other, times * prime]
                if plain_by_trial(*three):
                    told.append(self.check(three, prime, (1, 2, 3, 12)))
                    told.append(self.check(three[1:] + three[:1], prime, (1, 12)))
                    told.append(self.check(three[2:] + three[:2], prime, (2, 12)))
        self.assertGreater(told.count(True), 300)
        self.assertGreater(told.count(False), 300)

    def test_numbers_near_the_bound(self):
        told = []
        ones = (NEAR[0], -NEAR[1], 510510, -999997, 19 * 23 * 29)
        others = (NEAR[2], -31 * 37 * 41, 999994, -1)
        for three in itertools.product(ones, others, (1, -1, -43 * 47, 53 * 9941)):
            if plain_by_trial(*three):
                dividing = {prime for number in three for prime in primes_of(abs(number)) if prime < 10 ** 4}
                for prime in sorted(dividing | {2, 3, 5, 13, 101}):
                    told.append(self.check(three, prime, (1, 2, 3, 12)))
        self.assertGreater(told.count(True), 100)
        self.assertGreater(told.count(False), 50)

    def test_bad_by_the_first_power_too(self):
        # (0, 0, 1) fits by 3, and (1, 1, 0) by 2; but by 9 and by 4 none fit.
        for k in POWERS:
            self.check_bad((1, 1, -3), 3, k)
            self.check_bad((1, 1, -3), 2, k)
            self.check_bad((1, 1, 1), 2, k)

    def test_the_order_of_the_numbers_hinders_no_prime(self):
        for k in POWERS:
            self.check_fits((1, 1, 1), 3, k)
            self.check_fits((-1, -1, -3), 2, k)
            self.check_fits((-1, -2, -3), 5, k)

    def test_no_place(self):
        for prime in NO_PRIMES:
            for three in ((1, 1, 1), (1, 1, -1), (2, 3, -5), (1, 1, -3), (-5, -6, -7), (3, 5, 7)):
                for k in (1, 2, 3, 12):
                    with self.assertRaises(NoPlace):
                        fitting_rests(*three, prime, k)

    def test_not_plain_ahead_of_all(self):
        for three in NOT_PLAIN:
            for order in itertools.permutations(three):
                for prime in (2, 3, 5, 997, FAR[2], 0, 1, -3, 4, 15):
                    with self.assertRaises(NotPlain):
                        fitting_rests(*order, prime, 2)

    def test_each_told_is_a_new_one(self):
        for three, prime, k in (((1, 1, -1), 2, 1), ((2, 3, -5), 5, 3), ((1, 1, 1), 3, 12), ((1, -1, 3), 3, 1)):
            self.assertIsNot(fitting_rests(*three, prime, k), fitting_rests(*three, prime, k))
            self.check_fits(three, prime, k)

    def test_a_changed_refusal_changes_no_other(self):
        for turn in range(3):
            with self.assertRaises(BadPlace) as refused:
                fitting_rests(1, 1, -3, 3, 2)
            self.assertEqual(refused.exception.place, 3)
            refused.exception.place = 7


if __name__ == "__main__":
    unittest.main()
