import unittest

from conicplaces.roots import root_or_prime, roots_by
from trial import ODD, TEN, primes_of, squares_by

# The primes next to 10 ** 6, and primes with a great power of 2 in the number before them.
NEAR = (999961, 999979, 999983)
FERMATS = (17, 97, 193, 257, 7681, 12289, 40961, 65537, 163841, 786433, 995329)
# The product of the first seven primes, and other products of unlike primes up to 10 ** 6.
PRODUCTS = (510510, 2 * 499979, 3 * 333323, 997 * 991, 2 * 3 * 166657, 101 * 97 * 89, 999997, 999994, 37037)


def without_squares(number):
    return len(set(primes_of(number))) == len(primes_of(number))


class All(unittest.TestCase):
    def check(self, number, n):
        told = roots_by(number, n)
        self.assertIs(type(told), list)
        self.assertTrue(all(type(x) is int for x in told))
        self.assertEqual(told, [x for x in range(n) if (x * x - number) % n == 0], (number, n))
        return told

    def test_by_one(self):
        for number in (0, 1, -1, 5, TEN, -ODD):
            self.assertEqual(roots_by(number, 1), [0])

    def test_known(self):
        self.assertEqual(roots_by(0, 2), [0])
        self.assertEqual(roots_by(1, 2), [1])
        self.assertEqual(roots_by(0, 4), [0, 2])
        self.assertEqual(roots_by(1, 4), [1, 3])
        self.assertEqual(roots_by(2, 4), [])
        self.assertEqual(roots_by(1, 8), [1, 3, 5, 7])
        self.assertEqual(roots_by(4, 8), [2, 6])
        self.assertEqual(roots_by(5, 8), [])
        self.assertEqual(roots_by(2, 7), [3, 4])
        self.assertEqual(roots_by(-1, 5), [2, 3])
        self.assertEqual(roots_by(-1, 7), [])
        self.assertEqual(roots_by(0, 9), [0, 3, 6])
        self.assertEqual(roots_by(9, 27), [3, 6, 12, 15, 21, 24])
        self.assertEqual(roots_by(1, 15), [1, 4, 11, 14])

    def test_all_small_ones(self):
        for n in range(1, 50):
            for number in range(-n - 1, 2 * n + 1):
                self.check(number, n)

    def test_greater_n(self):
        # A prime, powers of primes, products, the bound and beyond.
        for n in (9973, 2 ** 13, 3 ** 8, 97 ** 2, 5 ** 5, 9240, 7 * 11 * 13, 10 ** 4, 10 ** 4 + 7):
            for number in (0, 1, 4, -1, 2, 9 * 25, n - 1, -n, 3 * n + 1):
                self.check(number, n)

    def test_300_figures(self):
        for n in (1, 2, 8, 9, 97, 360, 9999):
            for number in (TEN, -TEN, ODD, -ODD, TEN + ODD):
                self.check(number, n)

    def test_squares_have_their_root(self):
        for root, n in ((10 ** 149 + 7, 9973), (3 ** 300, 720), (12345, 10 ** 4)):
            self.assertIn(root % n, self.check(root * root, n))

    def test_the_list_is_the_askers_own(self):
        for number, n in ((1, 8), (0, 1), (3, 8)):
            right = roots_by(number, n)
            told = roots_by(number, n)
            told.append(-1)
            told[0] = 77
            self.assertEqual(roots_by(number, n), right)
            self.assertIsNot(roots_by(number, n), roots_by(number, n))


class RootOrPrime(unittest.TestCase):
    def check(self, number, n):
        told = root_or_prime(number, n)
        self.assertIs(type(told), tuple)
        self.assertEqual([type(part) for part in told], [str, int])
        word, value = told
        if word == "root":
            self.assertTrue(0 <= value and 2 * value <= n, (number, n))
            self.assertEqual((value * value - number) % n, 0, (number, n))
        else:
            self.assertEqual(word, "none")
            self.assertIn(value, primes_of(n))
            self.assertNotIn(number % value, squares_by(value), (number, n))
        return word

    def test_the_least_n(self):
        for number in (0, 1, -1, 2, -3, TEN, -ODD):
            self.assertEqual(root_or_prime(number, 1), ("root", 0))
            self.assertEqual(root_or_prime(number, 2), ("root", number % 2))

    def test_known(self):
        self.assertEqual(root_or_prime(2, 7), ("root", 3))
        self.assertEqual(root_or_prime(3, 7), ("none", 7))
        self.assertEqual(root_or_prime(0, 30), ("root", 0))
        self.assertEqual(root_or_prime(-1, 10), ("root", 3))
        self.assertEqual(root_or_prime(-1, 14), ("none", 7))
        self.assertEqual(root_or_prime(15, 30), ("root", 15))

    def test_none_just_where_there_is_none(self):
        for n in range(1, 120):
            if without_squares(n):
                for number in range(-n, 2 * n + 1):
                    fits = any((x * x - number) % n == 0 for x in range(n))
                    self.assertEqual(self.check(number, n) == "root", fits, (number, n))

    def test_all_rests_by_odd_primes(self):
        for prime in (p for p in range(3, 400) if primes_of(p) == (p,)):
            words = [self.check(number, prime) for number in range(prime)]
            self.assertEqual(words.count("root"), (prime + 1) // 2)

    def test_primes_with_great_powers_of_two(self):
        for prime in FERMATS:
            self.assertEqual(primes_of(prime), (prime,))
            for number in [*range(-20, 60), TEN, -ODD, prime - 1]:
                word = self.check(number, prime)
                self.assertEqual(word == "root", number % prime in squares_by(prime))

    def test_primes_near_the_bound(self):
        for prime in NEAR:
            self.assertEqual(primes_of(prime), (prime,))
            for number in [*range(-20, 60), TEN, -TEN, ODD, -ODD, prime, prime // 2]:
                word = self.check(number, prime)
                self.assertEqual(word == "root", number % prime in squares_by(prime))

    def test_products_near_the_bound(self):
        for n in PRODUCTS:
            self.assertTrue(without_squares(n) and n <= 10 ** 6, n)
            for root in (0, 1, 2, 35, n // 2, n // 2 + 1, n - 1, 10 ** 149 + 3):
                self.assertEqual(self.check(root * root, n), "root")
                self.assertEqual(self.check(root * root - TEN * n, n), "root")
            for number in (-1, 2, 3, 5, -7, TEN, ODD, -ODD):
                self.check(number, n)

    def test_one_prime_of_many_allows_none(self):
        # By 17 and by 7 the number 2 has a root, by 5 it has none; by 3 too it has none.
        self.assertEqual(root_or_prime(2, 17 * 7 * 5), ("none", 5))
        self.assertEqual(root_or_prime(2, 3 * 17 * 7), ("none", 3))
        self.assertIn(root_or_prime(2, 3 * 5 * 7), (("none", 3), ("none", 5)))

    def test_numbers_with_primes_of_n(self):
        for n in (6, 30, 210, 2310):
            for number in (2, 3, 6, 10, 15, -15, 105, 1155, n, -n, n // 2):
                fits = any((x * x - number) % n == 0 for x in range(n))
                self.assertEqual(self.check(number, n) == "root", fits, (number, n))

    def test_each_tuple_is_a_new_one(self):
        for number, n in ((0, 1), (2, 7), (3, 7)):
            self.assertIsNot(root_or_prime(number, n), root_or_prime(number, n))


if __name__ == "__main__":
    unittest.main()
