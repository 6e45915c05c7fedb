import unittest

from conicplaces.errors import NoNumber
from conicplaces.primes import core_of, prime_parts

# The two greatest primes below 10 ** 5, the least above it, and the primes next to 10 ** 10.
NEAR = (99989, 99991, 100003)
GREAT = 9999999967
BEYOND = 10000000019


def is_prime_by_trial(number):
    return number > 1 and all(number % d != 0 for d in range(2, number) if d * d <= number)


def parts_by_trial(number):
    parts = []
    for prime in range(2, number + 1):
        often = 0
        while number % prime == 0:
            number //= prime
            often += 1
        if often:
            parts.append((prime, often))
    return parts


class Parts(unittest.TestCase):
    def check(self, number, parts):
        told = prime_parts(number)
        self.assertIs(type(told), list)
        for part in told:
            self.assertIs(type(part), tuple)
            self.assertEqual([type(value) for value in part], [int, int])
        self.assertEqual(told, parts, number)

    def test_one_has_none(self):
        self.check(1, [])

    def test_all_small_numbers(self):
        for number in range(1, 1500):
            self.check(number, parts_by_trial(number))

    def test_primes(self):
        for prime in (2, 3, 5, 7, 97, *NEAR):
            self.assertTrue(is_prime_by_trial(prime))
            self.check(prime, [(prime, 1)])

    def test_powers_of_primes(self):
        self.check(2 ** 33, [(2, 33)])
        self.check(3 ** 20, [(3, 20)])
        self.check(5 ** 14, [(5, 14)])
        self.check(97 ** 5, [(97, 5)])
        self.check(NEAR[1] ** 2, [(NEAR[1], 2)])

    def test_products_of_unlike_primes(self):
        self.check(6469693230, [(p, 1) for p in (2, 3, 5, 7, 11, 13, 17, 19, 23, 29)])
        self.check(10 ** 10, [(2, 10), (5, 10)])
        self.check(2 ** 3 * 3 ** 2 * 101 ** 3, [(2, 3), (3, 2), (101, 3)])
        self.check(2 * 4999999937, [(2, 1), (4999999937, 1)])

    def test_two_primes_near_the_root(self):
        self.check(NEAR[0] * NEAR[1], [(NEAR[0], 1), (NEAR[1], 1)])
        self.check(NEAR[1] * NEAR[2], [(NEAR[1], 1), (NEAR[2], 1)])

    def test_great_primes(self):
        self.check(GREAT, [(GREAT, 1)])
        self.check(BEYOND, [(BEYOND, 1)])

    def test_the_list_is_the_askers_own(self):
        for number in (1, 7, 360):
            right = parts_by_trial(number)
            told = prime_parts(number)
            told.append((0, 0))
            told[0] = (1, 1)
            self.assertEqual(prime_parts(number), right)
            self.assertIsNot(prime_parts(number), prime_parts(number))

    def test_below_one(self):
        for number in (0, -1, -2, -12, -10 ** 10, -10 ** 6000):
            with self.assertRaises(NoNumber):
                prime_parts(number)


class Core(unittest.TestCase):
    def check(self, number, core, root):
        told = core_of(number)
        self.assertIs(type(told), tuple)
        self.assertEqual([type(value) for value in told], [int, int])
        self.assertEqual(told, (core, root), number)

    def check_both(self, number, core, root):
        self.check(number, core, root)
        self.check(-number, -core, root)

    def test_ones(self):
        self.check(1, 1, 1)
        self.check(-1, -1, 1)

    def test_all_small_numbers(self):
        for number in range(1, 1500):
            root = max(r for r in range(1, 40) if number % (r * r) == 0)
            self.check_both(number, number // (root * root), root)

    def test_squares(self):
        for root in (2, 3, 4, 6, 12, 30, 1024, 99990, 10 ** 5):
            self.check_both(root * root, 1, root)

    def test_without_squares(self):
        for number in (2, 3, 6, 30, 210, 6469693230, NEAR[0] * NEAR[1]):
            self.check_both(number, number, 1)

    def test_higher_powers(self):
        self.check_both(2 ** 33, 2, 2 ** 16)
        self.check_both(3 ** 20, 1, 3 ** 10)
        self.check_both(2 ** 5 * 3 ** 4 * 7 ** 3, 14, 4 * 9 * 7)

    def test_great_primes(self):
        self.check_both(NEAR[1] ** 2, 1, NEAR[1])
        self.check_both(GREAT, GREAT, 1)
        self.check_both(2499999977 * 4, 2499999977, 2)
        self.check_both(NEAR[1] * 300 ** 2, NEAR[1], 300)
        self.check_both(BEYOND, BEYOND, 1)

    def test_each_tuple_is_a_new_one(self):
        for number in (1, -1, 12):
            self.assertIsNot(core_of(number), core_of(number))

    def test_nought(self):
        with self.assertRaises(NoNumber):
            core_of(0)


if __name__ == "__main__":
    unittest.main()
