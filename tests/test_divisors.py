"""The divisors and spans that the spaces are computed with."""

import math
import random
import unittest

import independent
from latecomers.divisors import divisor, pivot_of, primitive, vector_divisor
from latecomers.spans import Span, basis_span, span_of


class DivisorsTest(unittest.TestCase):

    def test_small_numbers(self):
        for one in range(-30, 31):
            for other in range(-30, 31):
                self.assertEqual(divisor(one, other), math.gcd(one, other))

    def test_drawn_numbers_of_all_sizes(self):
        draw = random.Random(101)
        for bits in (1, 60, 200, 3990, 4010, 5000, 20000):
            for other_bits in (1, 60, 4010, 9000):
                for _ in range(4):
                    shared = draw.getrandbits(draw.choice([1, 50, 3000])) + 1
                    one = (draw.getrandbits(bits) + 1) * shared * draw.choice([1, -1])
                    other = (draw.getrandbits(other_bits) + 1) * shared * draw.choice([1, -1])
                    self.assertTrue(divisor(one, other) == math.gcd(one, other))

    def test_long_numbers_that_are_near_each_other(self):
        great = 10 ** 3000
        for one, other in ((great, great), (great, 0), (0, great), (great, great - 1), (great, -great),
                           (great ** 2, great), (great ** 2 + 1, great), (2 ** 9000, 2 ** 8999),
                           (2 ** 9000 - 1, 2 ** 6000 - 1), (2 ** 9000 + 2 ** 8880, 2 ** 9000 - 1)):
            self.assertTrue(divisor(one, other) == math.gcd(one, other))

    def test_long_neighbours_of_fibonacci(self):
        one, other = 1, 1
        while one.bit_length() < 12000:
            one, other = one + other, one
        self.assertEqual(divisor(one, other), 1)
        self.assertTrue(divisor(one * 91 ** 900, other * 91 ** 900) == 91 ** 900)

    def test_vectors(self):
        self.assertEqual(vector_divisor([0, -6, 4]), 2)
        self.assertEqual(vector_divisor([0, 0]), 0)
        self.assertEqual(primitive([0, -6, 4]), [0, 3, -2])
        self.assertEqual(pivot_of([0, 0, -1, 2]), 2)
        self.assertEqual(pivot_of([0, 0]), -1)


class SpansTest(unittest.TestCase):

    def test_take_tells_whether_the_span_grew(self):
        span = Span(3)
        self.assertTrue(span.take([0, 2, 4]))
        self.assertFalse(span.take([0, -1, -2]))
        self.assertFalse(span.take([0, 0, 0]))
        self.assertTrue(span.take([3, 0, 0]))
        self.assertFalse(span.take([1, 1, 2]))
        self.assertTrue(span.has([5, 3, 6]))
        self.assertFalse(span.has([5, 3, 7]))
        self.assertEqual(span.basis(), [[1, 0, 0], [0, 1, 2]])

    def test_scale_is_the_least_one(self):
        draw = random.Random(102)
        for _ in range(300):
            width = draw.randint(1, 6)
            vectors = [[draw.randint(-9, 9) for _ in range(width)] for _ in range(draw.randint(0, 7))]
            span = span_of(width, vectors)
            rows = independent.echelon(vectors)
            self.assertEqual(span.scale, math.lcm(*[entry.denominator for row in rows for entry in row]))
            self.assertEqual(sorted(span.rows, reverse=True), [[span.scale * entry for entry in row] for row in rows])

    def test_a_basis_gives_the_span_of_its_vectors(self):
        draw = random.Random(103)
        for _ in range(200):
            width = draw.randint(1, 6)
            vectors = [[draw.randint(-9, 9) for _ in range(width)] for _ in range(draw.randint(0, 7))]
            span = span_of(width, vectors)
            again = basis_span(width, span.basis())
            self.assertEqual(again.scale, span.scale)
            self.assertEqual(sorted(again.rows), sorted(span.rows))
            self.assertEqual(again.basis(), span.basis())


if __name__ == "__main__":
    unittest.main()
