import unittest
from fractions import Fraction

from besideandthrough.shares import below, greater, lowest, mean, minus, plus, times

SOME = [(0, 1), (1, 1), (-1, 1), (1, 2), (-1, 2), (2, 3), (-5, 3), (7, 6), (10 ** 30, 7),
        (-1, 10 ** 30)]


def pair(fraction):
    return fraction.numerator, fraction.denominator


class Shares(unittest.TestCase):
    def test_lowest(self):
        for num, den, told in (
            (0, 5, (0, 1)),
            (0, 1, (0, 1)),
            (2, 4, (1, 2)),
            (-2, 4, (-1, 2)),
            (-6, 3, (-2, 1)),
            (6, 3, (2, 1)),
            (5, 7, (5, 7)),
            (10 ** 40, 10 ** 41, (1, 10)),
        ):
            with self.subTest((num, den)):
                self.assertEqual(lowest(num, den), told)

    def test_sums_and_products(self):
        for a in SOME:
            for b in SOME:
                one, other = Fraction(*a), Fraction(*b)
                self.assertEqual(plus(a, b), pair(one + other))
                self.assertEqual(minus(a, b), pair(one - other))
                self.assertEqual(times(a, b), pair(one * other))

    def test_zero_has_one_form(self):
        self.assertEqual(minus((1, 3), (1, 3)), (0, 1))
        self.assertEqual(plus((-1, 3), (1, 3)), (0, 1))
        self.assertEqual(times((0, 1), (5, 7)), (0, 1))

    def test_order(self):
        for a in SOME:
            for b in SOME:
                one, other = Fraction(*a), Fraction(*b)
                self.assertIs(below(a, b), one < other)
                self.assertEqual(greater(a, b), pair(max(one, other)))

    def test_mean(self):
        for num, den in ((0, 1), (1, 1), (1, 2), (2, 4), (0, 5), (5, 5), (2, 7)):
            for a in SOME:
                for b in SOME:
                    share = Fraction(num, den)
                    told = share * Fraction(*a) + (1 - share) * Fraction(*b)
                    self.assertEqual(mean(num, den, a, b), pair(told))


if __name__ == "__main__":
    unittest.main()
