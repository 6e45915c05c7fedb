import unittest

from conicplaces.errors import NoNumber
from conicplaces.wholes import root_of, shares_of
from trial import ODD, TEN


def greatest_by_trial(one, other):
    if one == 0 and other == 0:
        return 0
    tried = range(1, max(abs(one), abs(other)) + 1)
    return max(d for d in tried if one % d == 0 and other % d == 0)


class Shares(unittest.TestCase):
    def check(self, one, other, greatest):
        told = shares_of(one, other)
        self.assertIs(type(told), tuple)
        self.assertEqual([type(part) for part in told], [int, int, int])
        g, s, t = told
        self.assertEqual(g, greatest, (one, other))
        self.assertEqual(s * one + t * other, g, (one, other))

    def test_all_small_pairs_of_all_signs(self):
        for one in range(-40, 41):
            for other in range(-40, 41):
                self.check(one, other, greatest_by_trial(one, other))

    def test_signs(self):
        self.check(84, 30, 6)
        self.check(-84, -30, 6)
        self.check(84, -30, 6)
        self.check(-84, 30, 6)

    def test_nought(self):
        self.check(0, 0, 0)
        for number in (1, -1, 7, -7, TEN, -TEN):
            self.check(number, 0, abs(number))
            self.check(0, number, abs(number))

    def test_one_divides_the_other(self):
        for one, other in ((6, 42), (-6, 42), (6, -42), (-6, -42)):
            self.check(one, other, 6)
            self.check(other, one, 6)

    def test_alike_but_for_the_sign(self):
        for number in (1, 12, TEN):
            self.check(number, number, number)
            self.check(-number, -number, number)
            self.check(number, -number, number)
            self.check(-number, number, number)

    def test_300_figures_sharing_nothing(self):
        self.assertEqual((len(str(TEN)), len(str(ODD))), (300, 300))
        for one in (TEN, -TEN):
            for other in (ODD, -ODD):
                self.check(one, other, 1)
                self.check(other, one, 1)
        self.check(TEN, TEN + 1, 1)

    def test_300_figures_sharing_much(self):
        great = 7 ** 236
        one, other = great * 10 ** 100, great * 3 ** 209
        self.assertEqual((len(str(one)), len(str(other))), (300, 300))
        for first in (one, -one):
            for second in (other, -other):
                self.check(first, second, great)
                self.check(second, first, great)

    def test_the_longest_way_down(self):
        # Neighbours in this row take the most divisions of all numbers of their length.
        one, other = 1, 1
        while len(str(one)) < 300:
            one, other = one + other, one
        self.check(one, other, 1)
        self.check(-other, one, 1)

    def test_each_tuple_is_a_new_one(self):
        for one, other in ((12, 18), (5, 0), (0, 0), (-4, 0)):
            self.assertIsNot(shares_of(one, other), shares_of(one, other))


class Root(unittest.TestCase):
    def test_the_least(self):
        self.assertEqual([root_of(n) for n in range(10)], [0, 1, 1, 1, 2, 2, 2, 2, 2, 3])

    def test_whole_number_and_no_truth(self):
        for number in (0, 1, 2, 10 ** 299):
            self.assertIs(type(root_of(number)), int)

    def test_all_small_numbers(self):
        root = 0
        for number in range(5000):
            if (root + 1) * (root + 1) == number:
                root += 1
            self.assertEqual(root_of(number), root, number)

    def test_round_squares(self):
        roots = [2, 3, 10, 2 ** 26, 2 ** 27 + 1, 94906267, 2 ** 32 - 1, 2 ** 53 + 1, 10 ** 149 + 7, 10 ** 150 - 1]
        roots += [10 ** k for k in range(1, 150)] + [3 ** k for k in range(1, 313)] + [2 ** k for k in range(1, 498)]
        for root in roots:
            square = root * root
            self.assertLessEqual(len(str(square)), 300)
            self.assertEqual(root_of(square), root)
            self.assertEqual(root_of(square - 1), root - 1)
            self.assertEqual(root_of(square + 1), root)
            self.assertEqual(root_of(square + 2 * root), root)
            self.assertEqual(root_of(square + 2 * root + 1), root + 1)

    def test_below_nought(self):
        for number in (-1, -2, -4, -10 ** 299, -10 ** 6000):
            with self.assertRaises(NoNumber):
                root_of(number)


if __name__ == "__main__":
    unittest.main()
