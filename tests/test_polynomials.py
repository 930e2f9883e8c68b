"""Points 31 and 32."""

import itertools
import random

from scanpages.errors import InvalidSymbol
from scanpages.field import add, multiply
from scanpages.polynomials import add_polynomials, divide, evaluate, interpolate, multiply_polynomials, reduced
from tests.support import ProgramTest, lists_over


def is_reduced(poly):
    """Whether a polynomial is a list without a 0 at its end."""
    return isinstance(poly, list) and (poly == [] or poly[-1] != 0)


def random_poly(chance, longest):
    """A polynomial, chosen by chance, that may have zeros at its end."""
    return [chance.choice((0, chance.randrange(16))) for _ in range(chance.randrange(longest + 1))]


def slow_value(poly, point):
    """The value of a polynomial, summed up power by power."""
    total = 0
    power = 1
    for coefficient in poly:
        total = add(total, multiply(coefficient, power))
        power = multiply(power, point)
    return total


class SumsAndProductsTest(ProgramTest):

    def test_reduced(self):
        for poly, expected in (
            ([], []), ([0], []), ([0, 0, 0], []), ([1], [1]), ([1, 0], [1]), ([0, 1], [0, 1]),
            ([0, 1, 0, 0], [0, 1]), ([3, 0, 2], [3, 0, 2]), ([3, 0, 2, 0], [3, 0, 2]),
        ):
            self.assertEqual(expected, self.pure(reduced, poly))

    def test_results_are_new_lists(self):
        poly = [1, 2]
        for result in (reduced(poly), add_polynomials(poly, []), add_polynomials([], poly), divide(poly, [1])[0],
                       divide(poly, [1, 1, 1])[1]):
            self.assertEqual([1, 2], result)
            self.assertIsNot(poly, result)

    def test_sums(self):
        self.assertEqual([], self.pure(add_polynomials, [], []))
        self.assertEqual([], add_polynomials([1, 2], [1, 2]))
        self.assertEqual([3], add_polynomials([1, 2], [2, 2, 0]))
        self.assertEqual([3, 2], self.pure(add_polynomials, [1, 2], [2]))
        self.assertEqual([3, 2], self.pure(add_polynomials, [2], [1, 2, 0, 0]))
        self.assertEqual([0, 0, 7], add_polynomials([5], [5, 0, 7]))

    def test_products(self):
        self.assertEqual([2, 3, 1], self.pure(multiply_polynomials, [1, 1], [2, 1]))
        for zero in ([], [0], [0, 0]):
            self.assertEqual([], self.pure(multiply_polynomials, zero, [1, 2]))
            self.assertEqual([], multiply_polynomials([1, 2], zero))
            self.assertEqual([], multiply_polynomials(zero, zero))
        self.assertEqual([1, 2], multiply_polynomials([1, 2], [1]))
        self.assertEqual([0, 0, 1], multiply_polynomials([0, 1, 0], [0, 1, 0, 0]))

    def test_by_chance(self):
        chance = random.Random(1)
        for _ in range(300):
            first, second = random_poly(chance, 7), random_poly(chance, 7)
            total = self.pure(add_polynomials, first, second)
            product = self.pure(multiply_polynomials, first, second)
            self.assertTrue(is_reduced(total) and is_reduced(product))
            if reduced(first) and reduced(second):
                self.assertEqual(len(reduced(first)) + len(reduced(second)) - 1, len(product))
            for point in range(16):
                values = slow_value(first, point), slow_value(second, point)
                self.assertEqual(add(*values), slow_value(total, point))
                self.assertEqual(multiply(*values), slow_value(product, point))

    def test_values(self):
        self.assertEqual(0, self.pure(evaluate, [], 5))
        self.assertEqual(7, self.pure(evaluate, [7, 0, 0], 5))
        self.assertEqual(5, evaluate([0, 1], 5))
        self.assertEqual(9, evaluate([9, 3, 4], 0))
        for poly in lists_over([0, 1, 2, 9], 4):
            for point in range(16):
                self.assertEqual(slow_value(poly, point), evaluate(poly, point))


class DivideTest(ProgramTest):

    def test_example(self):
        self.assertEqual(([2, 1], []), self.pure(divide, [2, 3, 1], [1, 1]))

    def check(self, poly, divisor):
        quotient, rest = result = self.pure(divide, poly, divisor)
        self.assertIsInstance(result, tuple)
        self.assertTrue(is_reduced(quotient) and is_reduced(rest))
        self.assertLess(len(rest), len(reduced(divisor)))
        self.assertEqual(reduced(poly), add_polynomials(multiply_polynomials(quotient, divisor), rest))

    def test_small_lists(self):
        lists = list(lists_over([0, 1, 7], 4))
        for poly, divisor in itertools.product(lists, repeat=2):
            if reduced(divisor):
                self.check(poly, divisor)

    def test_by_chance(self):
        chance = random.Random(2)
        for _ in range(500):
            poly, divisor = random_poly(chance, 20), random_poly(chance, 8)
            if reduced(divisor):
                self.check(poly, divisor)

    def test_edges(self):
        self.assertEqual(([], []), divide([], [5]))
        self.assertEqual(([], []), divide([0, 0], [5, 1]))
        self.assertEqual(([], [1, 2]), divide([1, 2], [0, 0, 1]))
        self.assertEqual(([], [1, 2]), divide([1, 2, 0, 0, 0], [0, 0, 1]))
        self.assertEqual(([1, 2], []), divide([1, 2], [1]))
        self.assertEqual(([1], []), divide([3, 2, 0], [3, 2, 0, 0]))

    def test_0(self):
        for divisor in ([], [0], [0, 0, 0]):
            for poly in ([], [0], [1, 2]):
                self.raised(InvalidSymbol, divide, poly, divisor)


class InterpolateTest(ProgramTest):

    def check(self, points):
        poly = self.pure(interpolate, points)
        self.assertTrue(is_reduced(poly))
        self.assertLessEqual(len(poly), len(points))
        for point, value in points:
            self.assertEqual(value, slow_value(poly, point))
        return poly

    def test_examples(self):
        self.assertEqual([5], self.check([(1, 5), (2, 5)]))
        self.assertEqual([], self.check([]))
        self.assertEqual([], self.check([(0, 0)]))
        self.assertEqual([], self.check([(3, 0), (4, 0), (15, 0)]))
        self.assertEqual([9], self.check([(7, 9)]))
        self.assertEqual([0, 1], self.check([(7, 7), (3, 3)]))

    def test_by_chance(self):
        chance = random.Random(3)
        for _ in range(300):
            points = [(point, chance.randrange(16)) for point in chance.sample(range(16), chance.randrange(17))]
            poly = self.check(points)
            chance.shuffle(points)
            self.assertEqual(poly, interpolate(points))

    def test_16_points(self):
        chance = random.Random(4)
        for _ in range(20):
            self.check([(point, chance.randrange(16)) for point in range(16)])
        poly = [chance.randrange(16) for _ in range(15)] + [6]
        self.assertEqual(poly, interpolate([(point, evaluate(poly, point)) for point in range(16)]))

    def test_equal_points(self):
        for points in (
            [(0, 0), (0, 0)],
            [(1, 5), (1, 5)],
            [(1, 5), (1, 6)],
            [(1, 5), (2, 5), (3, 0), (1, 5)],
            [(1, 5), (2, 5), (2, 5)],
            [(point % 16, 0) for point in range(17)],
        ):
            self.raised(InvalidSymbol, interpolate, points)
