import random
import unittest
from fractions import Fraction

from besideandthrough.hulls import nearest
from besideandthrough.points import blend, point_of
from tests.test_points import ENDS, FAIL, X, Y, shares

MANY = [("done", str(number), ()) for number in range(30)]


def mean(bar, point):
    return sum(share * bar.get(end, 0) for end, share in shares(point).items())


class Nearest(unittest.TestCase):
    def judge(self, point, others):
        """Judges an answer by itself: of weights and a bar only one can be right."""
        given = (point, tuple(others))
        told = nearest(point, others)
        self.assertEqual((point, tuple(others)), given)
        if told[0] == "weights":
            self.judge_weights(point, others, told)
        else:
            self.judge_bar(point, others, told)
        return told[0]

    def judge_weights(self, point, others, told):
        word, den, numbers = told
        self.assertEqual(word, "weights")
        self.assertIsInstance(numbers, tuple)
        self.assertEqual(len(numbers), len(others))
        self.assertGreaterEqual(min(numbers), 0)
        self.assertEqual(den, sum(numbers))
        self.assertGreaterEqual(den, 1)
        found = {}
        for number, other in zip(numbers, others):
            for end, share in shares(other).items():
                found[end] = found.get(end, 0) + Fraction(number, den) * share
        self.assertEqual({end: share for end, share in found.items() if share}, shares(point))
        self.judge_digits(numbers)

    def judge_bar(self, point, others, told):
        word, pairs = told
        self.assertEqual(word, "bar")
        self.assertIsInstance(pairs, tuple)
        ends = [end for end, _ in pairs]
        self.assertEqual(ends, sorted(set(ends)))
        bar = dict(pairs)
        for other in others:
            self.assertGreater(mean(bar, point), mean(bar, other))
        self.judge_digits(bar.values())

    def judge_digits(self, numbers):
        for number in numbers:
            self.assertIsInstance(number, int)
            self.assertLessEqual(abs(number), 10 ** 3000)

    def test_two_ends(self):
        one, other = point_of([(X, 1)]), point_of([(Y, 1)])
        half = point_of([(X, 1), (Y, 1)])
        self.assertEqual(self.judge(half, [one, other]), "weights")
        self.assertEqual(self.judge(one, [half, other]), "bar")
        self.assertEqual(self.judge(one, [other]), "bar")

    def test_the_point_itself_among_the_others(self):
        for many in range(1, 9):
            points = [point_of([(end, 1) for end in MANY[:at + 1]]) for at in range(many)]
            for point in points:
                self.assertEqual(self.judge(point, points), "weights")
                self.assertEqual(self.judge(point, [point] * many), "weights")

    def test_equal_points_among_the_others(self):
        one, other = point_of([(X, 1)]), point_of([(Y, 1)])
        half = point_of([(X, 1), (Y, 1)])
        for many in range(1, 8):
            self.assertEqual(self.judge(half, [one] * many + [other]), "weights")
            self.assertEqual(self.judge(half, [other] + [one] * many), "weights")
            self.assertEqual(self.judge(half, [one] * many), "bar")
            self.assertEqual(self.judge(one, [half] * many + [other]), "bar")
        self.assertEqual(self.judge(half, (one, one, other, other, one)), "weights")

    def test_an_end_of_its_own(self):
        point = point_of([(X, 1), (Y, 1000), (FAIL, 1000)])
        others = [point_of([(Y, 1)]), point_of([(FAIL, 1)]), point_of([(Y, 1), (FAIL, 1)])]
        self.assertEqual(self.judge(point, others), "bar")
        # One of the others has an end of its own, and takes no part.
        self.assertEqual(self.judge(others[2], [point, others[0], others[1]]), "weights")

    def test_within_beyond_and_on_the_edge(self):
        a, b, c = [point_of([(end, 1)]) for end in (X, Y, FAIL)]
        sides = [blend(1, 2, a, b), blend(1, 2, b, c), blend(1, 2, c, a)]
        middle = point_of([(X, 1), (Y, 1), (FAIL, 1)])
        self.assertEqual(self.judge(middle, sides), "weights")
        for side in sides:
            self.assertEqual(self.judge(side, [a, b, c]), "weights")
        edge = blend(1, 2, sides[0], sides[1])
        self.assertEqual(self.judge(edge, sides), "weights")
        # A millionth beyond the edge there is no end that tells the points apart.
        inside = blend(10 ** 6 - 1, 10 ** 6, edge, middle)
        outside = blend(10 ** 6 - 1, 10 ** 6, edge, b)
        self.assertEqual(self.judge(inside, sides), "weights")
        self.assertEqual(self.judge(outside, sides), "bar")

    def test_points_on_a_line(self):
        one, other = point_of([(X, 1), (Y, 3)]), point_of([(X, 3), (Y, 1)])
        line = [blend(a, 8, one, other) for a in range(1, 8)]
        for at in range(7):
            rest = line[:at] + line[at + 1:]
            self.assertEqual(self.judge(line[at], rest), "bar" if at in (0, 6) else "weights")

    def test_small_random_points(self):
        rnd = random.Random(1)
        told = {"weights": 0, "bar": 0}
        for _ in range(1500):
            ends = ENDS[:rnd.randint(2, 4)]
            points = [point_of([(rnd.choice(ends), rnd.randint(1, 3)) for _ in range(5)])
                      for _ in range(rnd.randint(2, 9))]
            told[self.judge(points[0], points[1:])] += 1
        self.assertGreater(min(told.values()), 200)

    def test_points_in_many_ends_around_a_mixture(self):
        rnd = random.Random(2)
        for _ in range(150):
            many = rnd.randint(2, 8)
            ends = MANY[:rnd.randint(2, 12)]
            others = [point_of([(end, rnd.randint(1, 9)) for end in ends]) for _ in range(many)]
            mixed = others[0]
            for other in others[1:]:
                mixed = blend(rnd.randint(1, 5), 6, mixed, other)
            self.assertEqual(self.judge(mixed, others), "weights")
            # It is a corner if it is not a mixture itself, so beyond it there is a bar.
            if self.judge(others[0], others[1:]) == "bar":
                self.assertEqual(self.judge(others[0], [*others[1:], mixed][:8]), "bar")

    def test_great_numbers(self):
        rnd = random.Random(3)
        told = {"weights": 0, "bar": 0}
        for ends in (MANY[:3], MANY[:7], MANY[:8], MANY):
            for _ in range(15):
                rows = [[rnd.randint(1, 10 ** 9 // len(ends) - 1) for _ in ends] for _ in range(8)]
                others = [point_of(list(zip(ends, row))) for row in rows]
                # The sum of the rows, roughly: it stands near the middle of the others.
                near = [sum(column) // 8 + rnd.randint(0, 3) for column in zip(*rows)]
                point = point_of(list(zip(ends, near)))
                self.assertLess(max(den for den, _ in [point, *others]), 10 ** 9)
                told[self.judge(point, others)] += 1
        self.assertGreater(min(told.values()), 10)


if __name__ == "__main__":
    unittest.main()
