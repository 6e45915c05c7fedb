import itertools
import unittest

from conicplaces.errors import NoNumber, NoPlace, NotPlain
from conicplaces.places import bad_places, is_plain, pair_sign
from trial import NEAR, NOT_PLAIN, plain_by_trial, plain_triples, primes_of, rests_fit, squares_by

PRIMES = (2, 3, 5, 7, 11, 13)


def often_in(number, prime):
    often = 0
    while number % prime == 0:
        number //= prime
        often += 1
    return often


def sign_by_trial(a, b, prime):
    """A fit by this power leads on to fits by all higher ones: the prime divides the slope less than half as often."""
    slope = max(often_in(2 * a, prime), often_in(2 * b, prime))
    return 1 if rests_fit(a, b, -1, prime, 2 * slope + 1) else -1


class Trial(unittest.TestCase):
    def test_the_trying_itself(self):
        for prime, power in ((2, 3), (3, 1), (3, 2), (5, 1)):
            n = prime ** power
            for a, b, c in itertools.product((1, 2, 3, -1, -5, 6), repeat=3):
                fits = any((a * x * x + b * y * y + c * z * z) % n == 0
                           for x, y, z in itertools.product(range(n), repeat=3) if x % prime or y % prime or z % prime)
                self.assertEqual(rests_fit(a, b, c, prime, power), fits)


class Plain(unittest.TestCase):
    def test_not_plain(self):
        for three in NOT_PLAIN:
            for order in itertools.permutations(three):
                self.assertIs(is_plain(*order), False, order)

    def test_ones(self):
        for three in itertools.product((1, -1), repeat=3):
            self.assertIs(is_plain(*three), True)

    def test_plain(self):
        for three in ((2, 3, 5), (-2, 3, -5), (6, -35, 1), (1, 1, -30), (-1, -210, 143), (30, 77, -13)):
            for order in itertools.permutations(three):
                self.assertIs(is_plain(*order), True, order)

    def test_all_small_ones(self):
        for three in itertools.product(range(-13, 14), repeat=3):
            self.assertIs(is_plain(*three), plain_by_trial(*three), three)

    def test_near_the_bound(self):
        self.assertIs(is_plain(*NEAR), True)
        self.assertIs(is_plain(-NEAR[0], NEAR[1], -NEAR[2]), True)
        self.assertIs(is_plain(510510, 19 * 23 * 29, -31 * 37), True)
        self.assertIs(is_plain(510510, 17 * 23 * 29, -31 * 37), False)
        self.assertIs(is_plain(10 ** 6 - 1, 1, 1), False)
        self.assertIs(is_plain(999997, 37037, -2), plain_by_trial(999997, 37037, 2))
        for number in range(10 ** 6 - 40, 10 ** 6 + 1):
            self.assertIs(is_plain(number, -1, 1), plain_by_trial(number, -1, 1), number)


class Bad(unittest.TestCase):
    def check_form(self, three, told):
        self.assertIs(type(told), list)
        self.assertTrue(all(type(place) is int for place in told), three)
        self.assertEqual(told, sorted(set(told)), three)
        self.assertEqual(len(told) % 2, 0, three)
        signs = {number > 0 for number in three}
        self.assertEqual(0 in told, len(signs) == 1, three)
        self.assertEqual(2 in told, not rests_fit(*three, 2, 3), three)

    def test_known(self):
        self.assertEqual(bad_places(1, 1, 1), [0, 2])
        self.assertEqual(bad_places(-1, -1, -1), [0, 2])
        self.assertEqual(bad_places(1, 1, -1), [])
        self.assertEqual(bad_places(1, 1, -2), [])
        self.assertEqual(bad_places(1, 1, -3), [2, 3])
        self.assertEqual(bad_places(2, 3, -5), [])
        self.assertEqual(bad_places(1, 1, 3), [0, 3])
        self.assertEqual(bad_places(1, -3, -5), [3, 5])
        self.assertEqual(bad_places(3, 5, 7), [0, 7])
        self.assertEqual(bad_places(-5, -6, -7), [0, 2, 5, 7])

    def test_all_small_ones_against_all_rests(self):
        for three in plain_triples(11):
            told = bad_places(*three)
            self.check_form(three, told)
            self.assertLessEqual(set(told), {0, *PRIMES})
            for prime in PRIMES[1:]:
                self.assertEqual(prime in told, not rests_fit(*three, prime, 2), (three, prime))

    def test_greater_ones_against_all_rests(self):
        count = 0
        for a, b, c in itertools.product((210, -143, 330, -1, 26), (1, -77, 39, 221, -30), (-1, 5, 17, -323, 14)):
            if plain_by_trial(a, b, c):
                count += 1
                told = bad_places(a, b, c)
                self.check_form((a, b, c), told)
                dividing = {0, 2, *primes_of(abs(a)), *primes_of(abs(b)), *primes_of(abs(c))}
                self.assertLessEqual(set(told), dividing)
                for prime in sorted(dividing | set(PRIMES))[2:]:
                    self.assertEqual(prime in told, not rests_fit(a, b, c, prime, 2), (a, b, c, prime))
        self.assertGreater(count, 20)

    def test_with_two_and_without(self):
        told = [bad_places(*three) for three in plain_triples(7)]
        for form in ((), (0, 2), (2, 3), (0, 3), (0, 2, 5, 7), (2, 3, 5, 7), (3, 5)):
            self.assertIn(list(form), told)

    def test_the_order_of_the_three_and_a_common_sign_change_nothing(self):
        for three in ((3, 5, 7), (1, 1, -3), (-2, 15, 77), (6, -35, 11), (NEAR[0], -NEAR[1], NEAR[2])):
            for order in itertools.permutations(three):
                self.assertEqual(bad_places(*order), bad_places(*three))
                self.assertEqual(bad_places(*[-number for number in order]), bad_places(*three))

    def test_near_the_bound(self):
        # By the square of an odd prime that divides a no rests fit just where -bc has no root by that prime.
        ones = (NEAR[0], -NEAR[1], 510510, -999997, 19 * 23 * 29)
        others = (NEAR[2], -31 * 37 * 41, 999994, -1)
        for a, b, c in itertools.product(ones, others, (1, -1, -43 * 47, 53 * 9941)):
            if plain_by_trial(a, b, c):
                told = bad_places(a, b, c)
                self.check_form((a, b, c), told)
                bad = []
                for one, product in ((a, -b * c), (b, -c * a), (c, -a * b)):
                    bad += [p for p in primes_of(abs(one)) if p > 2 and pow(product, (p - 1) // 2, p) == p - 1]
                self.assertEqual([place for place in told if place > 2], sorted(bad), (a, b, c))

    def test_not_plain(self):
        for three in NOT_PLAIN:
            for order in itertools.permutations(three):
                with self.assertRaises(NotPlain):
                    bad_places(*order)

    def test_the_list_is_the_askers_own(self):
        for three, right in (((1, 1, -3), [2, 3]), ((1, 1, -1), []), ((1, 1, 1), [0, 2])):
            told = bad_places(*three)
            told.append(99)
            told[0] = 77
            self.assertEqual(bad_places(*three), right)
            self.assertIsNot(bad_places(*three), bad_places(*three))


class PairSign(unittest.TestCase):
    def check(self, a, b, place, sign):
        told = pair_sign(a, b, place)
        self.assertIs(type(told), int)
        self.assertEqual(told, sign, (a, b, place))

    def check_against_all_rests(self, numbers, prime):
        for a, b in itertools.combinations_with_replacement(numbers, 2):
            sign = sign_by_trial(a, b, prime)
            self.check(a, b, prime, sign)
            self.check(b, a, prime, sign)

    def test_order_of_the_numbers(self):
        for one, other in ((1, 1), (2, 3), (6, 10 ** 6), (12, 7)):
            self.check(one, other, 0, 1)
            self.check(-one, other, 0, 1)
            self.check(one, -other, 0, 1)
            self.check(-one, -other, 0, -1)

    def test_known(self):
        self.check(-1, -1, 2, -1)
        self.check(-1, -1, 3, 1)
        self.check(2, 3, 2, -1)
        self.check(2, 3, 3, -1)
        self.check(2, 5, 5, -1)
        self.check(3, 3, 3, -1)
        self.check(5, 5, 5, 1)
        self.check(2, 7, 7, 1)

    def test_at_two_against_all_rests(self):
        self.check_against_all_rests([n for n in range(-13, 14) if n != 0], 2)
        self.check_against_all_rests((2, -6, 16, 24, -40), 2)

    def test_at_three_against_all_rests(self):
        self.check_against_all_rests([n for n in range(-10, 11) if n != 0] + [12, 15, 18, -18, 45], 3)
        self.check_against_all_rests((3, -6, 27, -54), 3)

    def test_at_greater_primes_against_all_rests(self):
        self.check_against_all_rests([n for n in range(-11, 11) if n != 0] + [15, -20], 5)
        self.check_against_all_rests([n for n in range(-8, 8) if n != 0] + [14, -21, 28], 7)
        self.check_against_all_rests((-1, 2, 3, 11, -11, 22), 11)
        self.check_against_all_rests((-1, 2, 5, 13, -26), 13)

    def test_numbers_with_squares_of_the_prime(self):
        self.check_against_all_rests((25, -50, 2, 5, 3), 5)
        for prime in PRIMES:
            for a, b in itertools.product((1, -1, 2, 3, 5, 6, -7, 10, -11, prime), repeat=2):
                sign = pair_sign(a, b, prime)
                for root in (2, 3, 5, 6, prime, prime * prime):
                    self.check(a * root * root, b, prime, sign)
                    self.check(a, b * root * root, prime, sign)

    def test_one_where_the_odd_prime_divides_neither(self):
        for a, b in itertools.product((1, -1, 2, -6, 8, 30, 49, -999, 10 ** 6), repeat=2):
            for place in (3, 5, 7, 11, 101, 499979, *NEAR):
                if a % place != 0 and b % place != 0:
                    self.check(a, b, place, 1)

    def test_near_the_bound(self):
        # Where the prime divides b once and a not at all, the sign tells whether a has a root by it.
        for prime in NEAR:
            for number in [*range(1, 30), 10 ** 6, 999999]:
                for a in (number, -number):
                    if a % prime != 0:
                        sign = 1 if a % prime in squares_by(prime) else -1
                        self.check(a, prime, prime, sign)
                        self.check(-prime, a, prime, sign)
            self.check(prime, prime, prime, 1 if prime % 4 == 1 else -1)
            self.check(prime, -prime, prime, 1)

    def test_the_product_over_all_places(self):
        numbers = [n for n in range(-15, 16) if n != 0]
        numbers += [72, -98, 510510, -999999, 10 ** 6, -10 ** 6, 2 ** 19, -3 ** 12, NEAR[0], -NEAR[1], 2 * 499979]
        for a, b in itertools.product(numbers, repeat=2):
            product = 1
            for place in {0, 2, *primes_of(abs(a)), *primes_of(abs(b))}:
                product *= pair_sign(a, b, place)
            self.assertEqual(product, 1, (a, b))

    def test_it_tells_the_bad_places(self):
        for a, b, c in plain_triples(6):
            bad = [place for place in (0, *PRIMES) if pair_sign(-a * c, -b * c, place) == -1]
            self.assertEqual(bad_places(a, b, c), bad, (a, b, c))

    def test_a_number_that_is_nought(self):
        for place in (0, 2, 3, 5, NEAR[2]):
            for a, b in ((0, 1), (1, 0), (0, 0), (-3, 0), (0, -10 ** 6)):
                with self.assertRaises(NoNumber):
                    pair_sign(a, b, place)

    def test_nought_ahead_of_the_place(self):
        for place in (-1, 1, 4, 9, 15, -3):
            for a, b in ((0, 1), (1, 0), (0, 0)):
                with self.assertRaises(NoNumber):
                    pair_sign(a, b, place)

    def test_no_place(self):
        for place in (-1, -2, -3, -7, 1, 4, 6, 8, 9, 15, 25, 27, 49, 341, 561, 997 ** 2, 991 * 997, 10 ** 6, -NEAR[0]):
            for a, b in ((1, 1), (-1, -1), (2, -3), (place, 5), (5, place)):
                with self.assertRaises(NoPlace):
                    pair_sign(a, b, place)


if __name__ == "__main__":
    unittest.main()
