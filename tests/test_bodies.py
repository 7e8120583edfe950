import random
import unittest

from besideandthrough.bodies import carried, drawn, either, ends_of, ends_within, only, settled
from besideandthrough.books import choices, draws
from besideandthrough.errors import TooLarge
from besideandthrough.points import point_of
from tests import normal
from tests.helpers import KERNELS

x, y, z = [("done", str(number), ()) for number in range(3)]
X, Y, Z = (1, ((x, 1),)), (1, ((y, 1),)), (1, ((z, 1),))
M = (2, ((x, 1), (y, 1)))
CHOOSING = [kernel for kernel in KERNELS if choices(kernel)]
DRAWING = [kernel for kernel in KERNELS if draws(kernel)]
# Kernels whose bodies have any number of share points of one end each.
LISTS = ("choose", "twochoose", "mixed")
# Points on a bow, so that none is a mixture of the others.
BOW = [point_of([(x, at * at), (y, at), (z, 100 - at - at * at)]) for at in range(1, 10)]


def random_points(rnd, kernel, most=4):
    """Share points that settling in a kernel may be passed."""
    ends = [x, y, z]
    if kernel == "spread":
        return [point_of([(rnd.choice(ends), rnd.randint(1, 3)) for _ in range(3)])
                for _ in range(rnd.randint(1, most))]
    if kernel in LISTS:
        return [(1, ((rnd.choice(ends), 1),)) for _ in range(rnd.randint(1, most))]
    if kernel == "none":
        return [(1, ((rnd.choice(ends), 1),))] * rnd.randint(1, most)
    point = point_of([(rnd.choice(ends), rnd.randint(1, 3)) for _ in range(3)])
    return [point] * rnd.randint(1, most)


class Settling(unittest.TestCase):
    def test_the_examples_of_the_document(self):
        self.assertEqual(settled("spread", [M, Y, X]), (X, Y))
        self.assertEqual(settled("spread", [M, Y]), (Y, M))

    def test_the_body_of_an_end(self):
        self.assertEqual(only(x), ((1, ((x, 1),)),))
        self.assertEqual(only(("fail", 2, 1, (0,))), ((1, ((("fail", 2, 1, (0,)), 1),)),))

    def test_each_kernel(self):
        for kernel in LISTS:
            self.assertEqual(settled(kernel, [Z, X, Y, X, Z]), (X, Y, Z))
            self.assertEqual(settled(kernel, (Y,)), (Y,))
        self.assertEqual(settled("none", (Y, Y)), (Y,))
        for kernel in ("draw", "twodraw"):
            self.assertEqual(settled(kernel, (M, M, M)), (M,))
        self.assertEqual(settled("spread", [Z, X, M, X, Z]), (X, Z, M))

    def test_more_than_eight_share_points(self):
        ends = [("done", str(number), ()) for number in range(20)]
        points = [(1, ((end, 1),)) for end in ends]
        for kernel in LISTS:
            self.assertEqual(settled(kernel, points), tuple(sorted(points)))
            self.assertEqual(settled(kernel, points, most=1), tuple(sorted(points)))

    def test_eight_and_nine_in_spread(self):
        self.assertEqual(settled("spread", BOW[:8]), tuple(sorted(BOW[:8])))
        with self.assertRaises(TooLarge):
            settled("spread", BOW)
        # Equal share points count once, but mixtures of the others count.
        self.assertEqual(settled("spread", BOW[:8] * 3), tuple(sorted(BOW[:8])))
        line = [point_of([(x, at), (y, 9 - at)]) for at in range(1, 9)]
        self.assertEqual(settled("spread", line), tuple(sorted([line[0], line[-1]])))
        with self.assertRaises(TooLarge):
            settled("spread", [*line, X])

    def test_a_smaller_most(self):
        for most in range(1, 9):
            self.assertEqual(settled("spread", BOW[:most], most=most), tuple(sorted(BOW[:most])))
            with self.assertRaises(TooLarge):
                settled("spread", BOW[:most + 1], most=most)
        self.assertEqual(settled("spread", [X, X, X], most=1), (X,))
        with self.assertRaises(TooLarge):
            settled("spread", [X, M, Y], most=2)

    def test_many(self):
        rnd = random.Random(1)
        for _ in range(100):
            for kernel in KERNELS:
                points = random_points(rnd, kernel, 9)
                before = list(points)
                try:
                    told = normal.told(normal.settled(kernel, normal.untold(points)))
                except normal.TooMany:
                    with self.assertRaises(TooLarge):
                        settled(kernel, points)
                    continue
                self.assertEqual(settled(kernel, points), told)
                self.assertEqual(points, before)


class EitherAndDrawn(unittest.TestCase):
    def test_the_examples_of_the_document(self):
        self.assertEqual(drawn("spread", 1, 3, (X, Y), (X,)), (X, (3, ((x, 2), (y, 1)))))
        self.assertEqual(drawn("mixed", 1, 2, (X,), (Y,)), (X, Y))

    def test_either(self):
        for kernel in CHOOSING:
            self.assertEqual(either(kernel, (Y,), (X,)), (X, Y))
            self.assertEqual(either(kernel, (X, Y), (X, Y)), (X, Y))
            self.assertEqual(either(kernel, (X, Z), (Y,)), (X, Y, Z))
        self.assertEqual(either("spread", (M,), (X, Y)), (X, Y))

    def test_drawn(self):
        for kernel in ("draw", "twodraw", "spread"):
            self.assertEqual(drawn(kernel, 1, 3, (X,), (Y,)), ((3, ((x, 1), (y, 2))),))
            self.assertEqual(drawn(kernel, 2, 6, (X,), (Y,)), ((3, ((x, 1), (y, 2))),))
            self.assertEqual(drawn(kernel, 2, 3, (M,), (M,)), (M,))
            self.assertEqual(drawn(kernel, 1, 2, (M,), (Y,)), ((4, ((x, 1), (y, 3))),))
        for a, b in ((1, 2), (2, 3), (5, 6)):
            self.assertEqual(drawn("mixed", a, b, (X, Y), (Y, Z)), (X, Y, Z))

    def test_too_large(self):
        with self.assertRaises(TooLarge):
            either("spread", tuple(sorted(BOW[:4])), tuple(sorted(BOW[4:])))
        self.assertEqual(len(either("spread", tuple(sorted(BOW[:4])), tuple(sorted(BOW[3:8])))), 8)
        three = tuple(sorted(BOW[:3]))
        with self.assertRaises(TooLarge):
            drawn("spread", 1, 2, three, (X, Y, Z))
        self.assertGreaterEqual(len(drawn("spread", 1, 2, three, (X, Y))), 4)

    def test_many(self):
        rnd = random.Random(2)
        for _ in range(100):
            for kernel in KERNELS:
                one = settled(kernel, random_points(rnd, kernel))
                other = settled(kernel, random_points(rnd, kernel))
                b = rnd.randint(2, 9)
                self.judge(kernel, rnd.randint(1, b - 1), b, one, other)

    def judge(self, kernel, a, b, one, other):
        first, second = normal.untold(one), normal.untold(other)
        if choices(kernel):
            try:
                told = normal.told(normal.settled(kernel, first + second))
                self.assertEqual(either(kernel, one, other), told)
            except normal.TooMany:
                with self.assertRaises(TooLarge):
                    either(kernel, one, other)
        if draws(kernel):
            try:
                told = normal.told(normal.drawn(kernel, a, b, first, second))
                self.assertEqual(drawn(kernel, a, b, one, other), told)
            except normal.TooMany:
                with self.assertRaises(TooLarge):
                    drawn(kernel, a, b, one, other)


class Ends(unittest.TestCase):
    def test_ends_of(self):
        self.assertEqual(ends_of((X, Y)), [x, y])
        self.assertEqual(ends_of((Y, M)), [x, y])
        self.assertEqual(ends_of((point_of([(z, 1), (y, 1)]), M)), [x, y, z])
        self.assertEqual(ends_of(only(x)), [x])

    def test_ends_within(self):
        first = ("ask", 2, 0, (0,), ((only(y), only(x)), (settled("choose", [X, Y]), only(y))))
        body = settled("choose", [X, (1, ((first, 1),))])
        # The ask comes first, and directly behind it what its children have.
        self.assertEqual(list(ends_within(body)), [first, y, x, x, y, y, x])
        second = ("ask", 1, 0, (), ((only(first),), (only(z),)))
        body = ((2, tuple(sorted([(second, 1), (z, 1)]))),)
        self.assertEqual(list(ends_within(body)), [second, first, y, x, x, y, y, z, z])
        self.assertEqual(list(ends_within(only(x))), [x])


class Carrying(unittest.TestCase):
    def test_the_example_of_the_document(self):
        self.assertEqual(carried("spread", (M,), [(X, Y), (Y,)]), (Y, M))

    def test_each_kernel(self):
        self.assertEqual(carried("none", (X,), [only(z)]), (Z,))
        for kernel in LISTS:
            self.assertEqual(carried(kernel, (X, Y), [(Y, Z), (X,)]), (X, Y, Z))
            self.assertEqual(carried(kernel, (X, Y), ((Y,), (Y,))), (Y,))
        for kernel in ("draw", "twodraw"):
            self.assertEqual(carried(kernel, (M,), [(M,), (Z,)]),
                             (point_of([(x, 1), (y, 1), (z, 2)]),))
        # Each share point takes from an image on its own.
        self.assertEqual(carried("spread", (X, M), [(X, Z), (Y,)]),
                         settled("spread", [X, Z, M, point_of([(z, 1), (y, 1)])]))

    def test_too_large(self):
        images = [tuple(sorted(BOW[:3])), tuple(sorted(BOW[3:6]))]
        with self.assertRaises(TooLarge):
            carried("spread", (M,), images)
        self.assertEqual(carried("spread", (X,), images[:1]), images[0])

    def test_many_ends(self):
        ends = sorted([("done", str(number), ()) for number in range(2000)])
        point = point_of([(end, 1) for end in ends])
        images = [only(end) for end in ends]
        self.assertEqual(carried("draw", (point,), images), (point,))
        body = settled("choose", [(1, ((end, 1),)) for end in ends])
        self.assertEqual(carried("choose", body, images), body)

    def test_many(self):
        rnd = random.Random(3)
        large = 0
        for _ in range(300):
            for kernel in KERNELS:
                body = settled(kernel, random_points(rnd, kernel, 3))
                ends = ends_of(body)
                images = [settled(kernel, random_points(rnd, kernel, 3)) for _ in ends]
                before = list(images)
                table = {end: normal.untold(image) for end, image in zip(ends, images)}
                try:
                    told = normal.told(normal.carried(kernel, normal.untold(body), table))
                except normal.TooMany:
                    large += 1
                    with self.assertRaises(TooLarge):
                        carried(kernel, body, images)
                    continue
                self.assertEqual(carried(kernel, body, images), told)
                self.assertEqual(images, before)
        self.assertGreater(large, 5)


if __name__ == "__main__":
    unittest.main()
