import random
import unittest
from fractions import Fraction

from besideandthrough.points import blend, point_of

X = ("done", "0", ())
Y = ("done", "1", ())
FAIL = ("fail", 1, 0, ())
ASK = ("ask", 1, 0, (), ((((1, ((X, 1),)),),),))
ENDS = (ASK, X, Y, FAIL)


def shares(point):
    """The shares of a share point, by its ends."""
    return {end: Fraction(number, point[0]) for end, number in point[1]}


def random_pairs(rnd, ends=ENDS, most=6):
    return [(rnd.choice(ends), rnd.randint(1, most)) for _ in range(rnd.randint(1, 7))]


class SharePoints(unittest.TestCase):
    def test_the_example_of_the_document(self):
        self.assertEqual(point_of([(Y, 2), (X, 2), (Y, 4)]), (4, ((X, 1), (Y, 3))))

    def test_one_end(self):
        self.assertEqual(point_of([(X, 7)]), (1, ((X, 1),)))
        self.assertEqual(point_of(((X, 2), (X, 3))), (1, ((X, 1),)))

    def test_ends_are_ascending(self):
        told = (4, ((ASK, 1), (X, 1), (Y, 1), (FAIL, 1)))
        self.assertEqual(point_of([(end, 5) for end in reversed(ENDS)]), told)
        self.assertEqual(point_of(tuple((end, 1) for end in ENDS)), told)

    def test_the_greatest_common_divisor(self):
        self.assertEqual(point_of([(X, 6), (Y, 9)]), (5, ((X, 2), (Y, 3))))
        self.assertEqual(point_of([(X, 6), (Y, 10), (FAIL, 15)]),
                         (31, ((X, 6), (Y, 10), (FAIL, 15))))

    def test_what_is_passed_stays(self):
        pairs = [(Y, 2), (X, 2), (Y, 4)]
        point_of(pairs)
        self.assertEqual(pairs, [(Y, 2), (X, 2), (Y, 4)])

    def test_many(self):
        rnd = random.Random(5)
        for _ in range(300):
            pairs = random_pairs(rnd)
            den, found = point = point_of(pairs)
            whole = sum(number for _, number in pairs)
            told = {}
            for end, number in pairs:
                told[end] = told.get(end, 0) + Fraction(number, whole)
            self.assertEqual(shares(point), told)
            self.assertEqual([end for end, _ in found], sorted(told))
            self.assertEqual(den, sum(number for _, number in found))
            # Nothing less than den makes all shares whole.
            for less in range(1, den):
                self.assertTrue(any((share * less).denominator > 1 for share in told.values()))


class Blends(unittest.TestCase):
    def test_of_two_ends(self):
        one, other = point_of([(X, 1)]), point_of([(Y, 1)])
        self.assertEqual(blend(1, 3, one, other), (3, ((X, 1), (Y, 2))))
        self.assertEqual(blend(2, 3, one, other), (3, ((X, 2), (Y, 1))))

    def test_not_in_lowest_terms(self):
        one, other = point_of([(X, 1)]), point_of([(Y, 1)])
        self.assertEqual(blend(2, 4, one, other), (2, ((X, 1), (Y, 1))))
        self.assertEqual(blend(6, 9, one, other), blend(2, 3, one, other))

    def test_of_equal_points(self):
        point = point_of([(X, 1), (Y, 2)])
        self.assertEqual(blend(3, 7, point, point), point)

    def test_of_points_with_a_common_end(self):
        one, other = point_of([(X, 1), (Y, 1)]), point_of([(Y, 1), (FAIL, 3)])
        # 1/3 (1/2, 1/2, 0) + 2/3 (0, 1/4, 3/4)
        self.assertEqual(blend(1, 3, one, other), (6, ((X, 1), (Y, 2), (FAIL, 3))))

    def test_many(self):
        rnd = random.Random(6)
        for _ in range(300):
            one, other = point_of(random_pairs(rnd)), point_of(random_pairs(rnd))
            b = rnd.randint(2, 12)
            a = rnd.randint(1, b - 1)
            told = {}
            for weight, point in ((a, one), (b - a, other)):
                for end, share in shares(point).items():
                    told[end] = told.get(end, 0) + Fraction(weight, b) * share
            point = blend(a, b, one, other)
            self.assertEqual(shares(point), told)
            self.assertEqual(point, point_of(list(reversed(point[1]))))


if __name__ == "__main__":
    unittest.main()
