import itertools
import unittest

from conicplaces.errors import BadPlace, NotPlain
from conicplaces.smalls import small_point
from trial import NOT_PLAIN, bad_by_trial, core_by_hand, is_lowest, plain_by_trial, plain_triples

# The greatest primes below 10 ** 3, and products of small ones.
FAR = (997, -991, 983, -977, 971)
MANY = (210, -330, 462, -770, 910, -858, 1, -1, 2, -3)


class SmallPoint(unittest.TestCase):
    def check_point(self, a, b, c):
        told = small_point(a, b, c)
        self.assertTrue(is_lowest(told), (a, b, c, told))
        x, y, z = told
        self.assertEqual(a * x * x + b * y * y + c * z * z, 0, (a, b, c, told))
        self.assertLessEqual(x * x, abs(b * c), (a, b, c, told))
        self.assertLessEqual(y * y, abs(c * a), (a, b, c, told))
        self.assertLessEqual(z * z, abs(a * b), (a, b, c, told))

    def check_bad(self, three, place):
        with self.assertRaises(BadPlace) as refused:
            small_point(*three)
        self.assertIs(type(refused.exception.place), int)
        self.assertEqual(refused.exception.place, place, three)

    def check(self, three):
        bad = bad_by_trial(*three)
        if bad == []:
            self.check_point(*three)
        else:
            self.check_bad(three, bad[0])
        return bad == []

    def test_known(self):
        for three in ((1, 1, -1), (1, 1, -2), (2, 3, -5), (1, -1, 997), (3, -2, -1), (5, -1, -19), (7, 2, -15)):
            for order in itertools.permutations(three):
                self.check_point(*order)
                self.check_point(*[-number for number in order])

    def test_all_small_ones(self):
        told = [self.check(three) for three in plain_triples(13)]
        self.assertGreater(told.count(True), 500)
        self.assertGreater(told.count(False), 500)

    def test_two_ones_and_a_sum_of_two_squares(self):
        # There the bounds leave the least room: zz must be 1.
        sums = sorted({x * x + y * y for x, y in itertools.product(range(1, 32), repeat=2)})
        numbers = [number for number in sums if number <= 1000 and core_by_hand(number) == number]
        self.assertGreater(len(numbers), 150)
        for number in numbers:
            for order in ((1, 1, -number), (1, -number, 1), (-number, 1, 1), (-1, number, -1)):
                self.check_point(*order)

    def test_greater_ones_with_a_point(self):
        # With a xx and b yy taken from 0 there is a point.
        count = 0
        for a, b in itertools.product((*FAR, *MANY), repeat=2):
            for x, y in ((1, 1), (1, 2), (3, 1), (5, 7), (13, 11), (1, 30), (17, 4)):
                worth = -a * x * x - b * y * y
                if worth == 0:
                    continue
                three = (a, b, core_by_hand(worth))
                if plain_by_trial(*three) and abs(three[2]) <= 1000:
                    count += 1
                    for order in itertools.permutations(three):
                        self.check_point(*order)
        self.assertGreater(count, 100)

    def test_greater_ones_of_all_sorts(self):
        threes = itertools.product((*FAR, *MANY), (-1, 13, 17, -19, 989), (1, -23, 899, -613))
        told = [self.check(three) for three in threes if plain_by_trial(*three)]
        self.assertIn(True, told)
        self.assertGreater(told.count(False), 100)

    def test_where_three_vectors_are_shorter_together(self):
        # Of these the points are missed where vectors are added to one another two by two alone.
        for three in ((-3, -19, 79), (5, 31, -129), (7, 43, -179), (-13, -77, 321), (-15, -89, 371), (1, -323, 287),
                      (1, -817, 781), (3, -467, 455), (-5, -31, 501), (1, 57, -937), (39, 235, -979), (-39, -233, 971)):
            for order in itertools.permutations(three):
                self.check_point(*order)
                self.check_point(*[-number for number in order])

    def test_beyond_the_bound(self):
        self.assertFalse(self.check((1009, -1013, 2)))
        for three in ((1, 1, -1009), (1, -1, 99991), (2, -1, -70049), (-820123, -771303, 1591426),
                      (-95726, 330203, -2588923), (-869912314, 451742573, -3195770843)):
            self.assertTrue(self.check(three), three)

    def test_the_least_bad_place(self):
        for three, place in (((1, 1, 1), 0), ((-1, -1, -1), 0), ((3, 5, 7), 0), ((-5, -6, -7), 0), ((1, 1, -3), 2),
                             ((1, -7, -11), 2), ((1, -3, -5), 3), ((-19, 35, 2), 5), ((41, -37, -35), 5),
                             ((3, 19, -7), 7), ((1, -34, 57), 17), ((37, -14, -53), 37), ((43, -3, 53), 43)):
            self.check_bad(three, place)

    def test_not_plain_ahead_of_bad(self):
        for three in (*NOT_PLAIN, (4, 4, 4), (-4, -1, -1), (1, 4, -3), (3, 3, 3), (9, 1, 1), (1, 0, 1), (0, -1, -1)):
            for order in itertools.permutations(three):
                with self.assertRaises(NotPlain, msg=order):
                    small_point(*order)

    def test_each_told_is_a_new_one(self):
        for three in ((1, 1, -1), (2, 3, -5), (1, -1, 1)):
            self.assertIsNot(small_point(*three), small_point(*three))

    def test_a_changed_refusal_changes_no_other(self):
        with self.assertRaises(BadPlace) as refused:
            small_point(1, 1, -3)
        refused.exception.place = None
        self.check_bad((1, 1, -3), 2)


if __name__ == "__main__":
    unittest.main()
