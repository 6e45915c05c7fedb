import itertools
import unittest

from conicplaces.errors import NoVertex
from conicplaces.sums import changed_by, lowest_point, measure_of, put_together, size_of, vertex_of, worth_of
from trial import ODD, TEN, changed_by_hand, is_lowest, measure_by_hand, slopes_by_hand, turned_by_hand, worth_by_hand

SAME = ((1, 0, 0), (0, 1, 0), (0, 0, 1))
NOUGHTS = (0, 0, 0)
GREAT = 10 ** 300 - 1
SUMS = ((1, 1, -1, 0, 0, 0), (2, 3, -5, 0, 0, 0), (1, 2, 3, 4, 5, 6), (0, 0, 0, 1, 1, 1), (-7, 0, 4, -9, 11, 3),
        (0, 0, 0, 0, 0, 0), (0, 5, 0, 0, -2, 0), (-1, -2, -3, -4, -5, -6), (100, -100, 100, 99, -98, 97),
        (TEN, -ODD, GREAT, -GREAT, ODD - 1, 7), (0, 0, GREAT, 0, -TEN, 0))
TABLES = (SAME, ((0, 1, 0), (0, 0, 1), (1, 0, 0)), ((1, 2, 3), (4, 5, 6), (7, 8, 10)), (NOUGHTS, NOUGHTS, NOUGHTS),
          ((-1, 0, 2), (3, -5, 0), (0, 7, -11)), ((1, 2, 3), (1, 2, 3), (0, 1, 0)), ((0, 0, 1), (0, 0, 0), (5, -4, 0)),
          ((2, 0, 0), (0, -3, 0), (0, 0, 5)), ((TEN, 1, -ODD), (GREAT, -GREAT, 3), (0, ODD, 1 - TEN)))
POINTS = ((0, 0, 0), *SAME, (0, 1, 1), (1, 0, 1), (1, 1, 0), (-1, 2, -3), (5, 0, -7), (0, -4, 9), (-6, -1, 0),
          (TEN, -ODD, GREAT))


class WithKinds(unittest.TestCase):
    def check_number(self, told, right):
        self.assertIs(type(told), int)
        self.assertEqual(told, right)

    def check_tuple(self, told, right):
        self.assertIs(type(told), tuple)
        self.assertTrue(all(type(number) is int for number in told))
        self.assertEqual(told, right)

    def check_table(self, told, right):
        self.assertIs(type(told), tuple)
        self.assertEqual(len(told), 3)
        for row, right_row in zip(told, right):
            self.check_tuple(row, right_row)


class Worth(WithKinds):
    def test_each_term_by_itself(self):
        point = (2, -3, 5)
        for place, right in enumerate((4, 9, 25, -15, 10, -6)):
            total = tuple(7 if i == place else 0 for i in range(6))
            self.check_number(worth_of(total, point), 7 * right)

    def test_by_hand(self):
        self.check_number(worth_of((2, 3, -5, 0, 0, 0), (1, 1, 1)), 0)
        self.check_number(worth_of((1, 2, 3, 4, 5, 6), (1, 1, 1)), 21)
        self.check_number(worth_of((1, 2, 3, 4, 5, 6), (1, 0, -2)), 3)
        self.check_number(worth_of((1, 2, 3, 4, 5, 6), (0, -3, 1)), 9)
        self.check_number(worth_of((-2, 1, 0, 0, 0, -13), (-1, 2, 9)), 28)
        self.check_number(worth_of((0, 0, 0, 0, 0, 0), (4, -5, 6)), 0)
        self.check_number(worth_of((1, 2, 3, 4, 5, 6), NOUGHTS), 0)

    def test_all_against_the_words(self):
        for total, point in itertools.product(SUMS, POINTS):
            self.check_number(worth_of(total, point), worth_by_hand(total, point))

    def test_300_figures(self):
        self.assertEqual([len(str(number)) for number in (GREAT, TEN, ODD)], [300, 300, 300])
        self.check_number(worth_of((GREAT, 0, 0, 0, 0, 0), (-GREAT, 5, 6)), GREAT ** 3)
        self.check_number(worth_of((0, 0, 0, GREAT, -TEN, 0), (ODD, TEN, -GREAT)), GREAT * TEN * (ODD - GREAT))


class Changed(WithKinds):
    def test_by_hand(self):
        # x + y, y, z in the place of x, y, z; then y, z, x; then 2 x, - 3 y, 5 z.
        self.check_tuple(changed_by((1, 2, 3, 4, 5, 6), ((1, 1, 0), (0, 1, 0), (0, 0, 1))), (1, 9, 3, 9, 5, 8))
        self.check_tuple(changed_by((1, 2, 3, 4, 5, 6), TABLES[1]), (3, 1, 2, 6, 4, 5))
        self.check_tuple(changed_by((1, 2, 3, 4, 5, 6), ((2, 0, 0), (0, -3, 0), (0, 0, 5))), (4, 18, 75, -60, 50, -36))

    def test_the_table_that_turns_nothing(self):
        for total in SUMS:
            self.check_tuple(changed_by(total, SAME), total)

    def test_noughts(self):
        for table in TABLES:
            self.check_tuple(changed_by((0,) * 6, table), (0,) * 6)
        for total in SUMS:
            self.check_tuple(changed_by(total, (NOUGHTS,) * 3), (0,) * 6)

    def test_the_worth_is_that_at_the_turned_point(self):
        for total, table in itertools.product(SUMS, TABLES):
            told = changed_by(total, table)
            self.check_tuple(told, changed_by_hand(total, table))
            for point in POINTS:
                self.assertEqual(worth_by_hand(told, point), worth_by_hand(total, turned_by_hand(table, point)))

    def test_each_told_is_a_new_one(self):
        for total in SUMS:
            self.assertIsNot(changed_by(total, SAME), total)
            self.assertIsNot(changed_by(total, SAME), changed_by(total, SAME))


class Together(WithKinds):
    def test_by_hand(self):
        one, other = ((1, 1, 0), (0, 1, 0), (0, 0, 1)), ((1, 0, 0), (2, 1, 0), (0, 0, 3))
        self.check_table(put_together(one, other), ((3, 1, 0), (2, 1, 0), (0, 0, 3)))
        self.check_table(put_together(other, one), ((1, 1, 0), (2, 3, 0), (0, 0, 3)))

    def test_as_the_second_and_then_the_first(self):
        for one, other in itertools.product(TABLES, repeat=2):
            told = put_together(one, other)
            self.check_table(told, told)
            for point in POINTS:
                self.assertEqual(turned_by_hand(told, point), turned_by_hand(one, turned_by_hand(other, point)))

    def test_a_sum_is_changed_by_the_first_and_then_by_the_second(self):
        shows = 0
        for one, other in itertools.product(TABLES, repeat=2):
            for total in SUMS:
                told = changed_by(total, put_together(one, other))
                self.assertEqual(told, changed_by(changed_by(total, one), other))
                shows += told != changed_by(changed_by(total, other), one)
        self.assertGreater(shows, 100)

    def test_with_the_table_that_turns_nothing(self):
        for table in TABLES:
            self.check_table(put_together(table, SAME), table)
            self.check_table(put_together(SAME, table), table)

    def test_noughts(self):
        for table in TABLES:
            self.check_table(put_together(table, (NOUGHTS,) * 3), (NOUGHTS,) * 3)
            self.check_table(put_together((NOUGHTS,) * 3, table), (NOUGHTS,) * 3)

    def test_each_told_is_a_new_one(self):
        for table in TABLES:
            for told in (put_together(table, SAME), put_together(SAME, table)):
                self.assertIsNot(told, table)
                for row, handed, same in zip(told, table, SAME):
                    self.assertIsNot(row, handed)
                    self.assertIsNot(row, same)


class Measure(WithKinds):
    def test_by_hand(self):
        for table, right in zip(TABLES, (1, 1, -3, 0, -13, 0, 0, -30)):
            self.check_number(measure_of(table), right)

    def test_each_of_its_six_products(self):
        for order, sign in (((0, 1, 2), 1), ((1, 2, 0), 1), ((2, 0, 1), 1), ((1, 0, 2), -1), ((0, 2, 1), -1),
                            ((2, 1, 0), -1)):
            table = tuple(tuple(number if i == place else 0 for i in range(3))
                          for number, place in zip((3, 5, 7), order))
            self.check_number(measure_of(table), sign * 105)

    def test_against_the_words(self):
        for table in TABLES:
            self.check_number(measure_of(table), measure_by_hand(table))

    def test_two_rows_alike(self):
        for one, other in (((1, 2, 3), (4, 5, 6)), ((0, -1, 7), (TEN, ODD, -GREAT)), (NOUGHTS, (1, 0, 5))):
            for table in ((one, one, other), (one, other, one), (other, one, one)):
                self.check_number(measure_of(table), 0)

    def test_two_rows_changing_places(self):
        for first, second, third in TABLES:
            self.check_number(measure_of((second, first, third)), -measure_of((first, second, third)))

    def test_of_two_put_together(self):
        for one, other in itertools.product(TABLES, repeat=2):
            self.check_number(measure_of(put_together(one, other)), measure_by_hand(one) * measure_by_hand(other))

    def test_300_figures(self):
        self.check_number(measure_of(((GREAT, 0, 0), (1, -TEN, 0), (2, 3, ODD))), -GREAT * TEN * ODD)


class Size(WithKinds):
    def test_by_hand(self):
        self.check_number(size_of((2, 3, -5, 0, 0, 0)), -120)
        self.check_number(size_of((0, 0, 0, 1, 1, 1)), 1)
        self.check_number(size_of((1, 2, 3, 4, 5, 6)), 24 + 120 - 16 - 50 - 108)
        self.check_number(size_of((0, -1, 0, 0, 1, 0)), 1)
        self.check_number(size_of((0, 0, 0, 0, 0, 0)), 0)
        self.check_number(size_of((1, 1, 0, 0, 0, 2)), 0)

    def test_each_of_its_terms(self):
        self.check_number(size_of((2, 3, 5, 0, 0, 0)), 120)
        self.check_number(size_of((0, 0, 0, 2, 3, 5)), 30)
        self.check_number(size_of((2, 0, 0, 3, 0, 0)), -18)
        self.check_number(size_of((0, 2, 0, 0, 3, 0)), -18)
        self.check_number(size_of((0, 0, 2, 0, 0, 3)), -18)

    def test_changed_by_a_table(self):
        for total, table in itertools.product(SUMS, TABLES):
            self.check_number(size_of(changed_by_hand(total, table)), measure_by_hand(table) ** 2 * size_of(total))

    def test_300_figures(self):
        self.check_number(size_of((GREAT, -TEN, ODD, 0, 0, 0)), -4 * GREAT * TEN * ODD)
        self.check_number(size_of((0, 0, 0, GREAT, -TEN, ODD)), -GREAT * TEN * ODD)
        self.check_number(size_of((GREAT, TEN, 0, ODD, -1, 0)), -GREAT * ODD ** 2 - TEN)


class Lowest(WithKinds):
    def test_by_hand(self):
        for point, right in (((2, 4, 6), (1, 2, 3)), ((-2, 4, 6), (1, -2, -3)), ((0, 0, -5), (0, 0, 1)),
                             ((0, -3, 6), (0, 1, -2)), ((0, 3, -6), (0, 1, -2)), ((6, 10, 15), (6, 10, 15)),
                             ((-6, -10, -15), (6, 10, 15)), ((7, 0, 0), (1, 0, 0)), ((0, 0, 1), (0, 0, 1)),
                             ((4, 0, -6), (2, 0, -3)), ((0, -1, 0), (0, 1, 0)), ((-1, 0, 0), (1, 0, 0)),
                             ((3, -3, 3), (1, -1, 1)), ((12, 18, -27), (4, 6, -9))):
            self.check_tuple(lowest_point(point), right)

    def test_all_small_ones(self):
        for point in itertools.product(range(-6, 7), repeat=3):
            if any(point):
                told = lowest_point(point)
                self.assertTrue(is_lowest(told), (point, told))
                times = next(number // part for number, part in zip(point, told) if part != 0)
                self.assertEqual(tuple(times * part for part in told), point)

    def test_300_figures(self):
        self.check_tuple(lowest_point((0, -GREAT, GREAT)), (0, 1, -1))
        self.check_tuple(lowest_point((0, 0, -TEN)), (0, 0, 1))
        self.check_tuple(lowest_point((-TEN, ODD, 0)), (TEN, -ODD, 0))
        great = 7 ** 200
        for one, other, third in ((3 ** 270, -10 ** 130, 11), (0, -2, 10 ** 130 + 1), (-(11 ** 124), 0, 1)):
            sign = 1 if one > 0 else -1
            told = lowest_point((one * great, other * great, third * great))
            self.check_tuple(told, (sign * one, sign * other, sign * third))

    def test_each_told_is_a_new_one(self):
        for point in (*SAME, (1, 2, 3), (0, 1, -1)):
            self.assertIsNot(lowest_point(point), point)
            self.assertIsNot(lowest_point(point), lowest_point(point))


def lines_product(one, other):
    """The sum that is the product of (k x + l y + m z) and another such."""
    k, l, m = one
    p, q, r = other
    return (k * p, l * q, m * r, l * r + m * q, k * r + m * p, k * q + l * p)


class Vertex(WithKinds):
    def check_vertex(self, total):
        told = vertex_of(total)
        self.assertTrue(is_lowest(told), (total, told))
        self.assertEqual(slopes_by_hand(total, told), NOUGHTS, (total, told))
        return told

    def test_two_lines(self):
        # Where the lines are two, there is one vertex alone, their crossing.
        for one, other, right in (((1, 0, 0), (0, 1, 0), (0, 0, 1)), ((0, 1, 0), (0, 0, 1), (1, 0, 0)),
                                  ((1, 0, 0), (0, 0, 1), (0, 1, 0)), ((1, -1, 0), (1, 1, 0), (0, 0, 1)),
                                  ((1, 1, 1), (1, 2, 3), (1, -2, 1)), ((2, 0, -1), (0, 3, -1), (3, 2, 6)),
                                  ((-1, 0, -1), (0, 5, -5), (1, -1, -1))):
            self.assertEqual(self.check_vertex(lines_product(one, other)), right)

    def test_all_small_lines(self):
        # The two alike and multiples of one another among them.
        lines = [line for line in itertools.product((-2, -1, 0, 1, 3), repeat=3) if any(line)]
        for one, other in itertools.combinations_with_replacement(lines, 2):
            self.check_vertex(lines_product(one, other))

    def test_one_unknown_alone(self):
        for number in (1, -1, 4, -9, 5, GREAT):
            for place in range(3):
                self.check_vertex(tuple(number if i == place else 0 for i in range(6)))

    def test_two_unknowns_alone(self):
        self.assertEqual(self.check_vertex((1, 1, 0, 0, 0, 0)), (0, 0, 1))
        self.assertEqual(self.check_vertex((3, 0, -7, 0, 2, 0)), (0, 1, 0))
        self.assertEqual(self.check_vertex((0, -5, -5, 1, 0, 0)), (1, 0, 0))

    def test_noughts(self):
        self.check_vertex((0, 0, 0, 0, 0, 0))

    def test_small_sums_and_no_vertex(self):
        refused = 0
        for total in itertools.product((-2, 0, 1), (-1, 0, 2), (0, 1), (-2, 0, 3), (0, 1, -1), (2, 0, -1)):
            if size_of(total) == 0:
                self.check_vertex(total)
            else:
                refused += 1
                with self.assertRaises(NoVertex):
                    vertex_of(total)
        self.assertGreater(refused, 100)

    def test_no_vertex(self):
        for total in ((1, 1, -1, 0, 0, 0), (0, 0, 0, 1, 1, 1), (0, -1, 0, 0, 1, 0), (-1, -1, -1, 0, 0, 0),
                      (TEN, GREAT, -ODD, 0, 0, 0), (0, 0, 0, GREAT, TEN, -ODD), (1, 2, 3, 4, 5, 6)):
            with self.assertRaises(NoVertex):
                vertex_of(total)

    def test_300_figures(self):
        root = 10 ** 149
        for one, other in (((root, 3 ** 300, -7), (1, -root, 5)), ((root, 0, 1 - root), (0, 11 ** 140, 2)),
                           ((root, -root, 7 ** 170), (root, -root, 7 ** 170)), ((0, 0, root), (0, 0, -root))):
            self.check_vertex(lines_product(one, other))
        self.check_vertex((GREAT, GREAT, 0, 0, 0, 2 * GREAT))
        self.check_vertex((GREAT, -TEN, 0, 0, 0, ODD))

    def test_each_told_is_a_new_one(self):
        for total in ((0,) * 6, (1, 1, 0, 0, 0, 0), (0, 4, 0, 0, 0, 0)):
            self.assertIsNot(vertex_of(total), vertex_of(total))


if __name__ == "__main__":
    unittest.main()
