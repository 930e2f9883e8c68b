"""Polynomials over the symbols, as lists of coefficients that begin with the one of x to the power 0."""

from scanpages.errors import InvalidSymbol
from scanpages.field import PRODUCTS, inverse, multiply, scaled


def reduced(poly):
    """Returns the reduced list of the same polynomial."""
    length = len(poly)
    while length > 0 and poly[length - 1] == 0:
        length -= 1
    return poly[:length]


def add_polynomials(first, second):
    """Returns the sum of two polynomials."""
    longer, shorter = (first, second) if len(first) >= len(second) else (second, first)
    total = list(longer)
    for at, coefficient in enumerate(shorter):
        total[at] ^= coefficient
    return reduced(total)


def multiply_polynomials(first, second):
    """Returns the product of two polynomials."""
    product = [0] * (len(first) + len(second))
    for shift, factor in enumerate(first):
        for at, coefficient in enumerate(scaled(second, factor), shift):
            product[at] ^= coefficient
    return reduced(product)


def evaluate(poly, point):
    """Returns the value of a polynomial at a point."""
    products = PRODUCTS[point]
    value = 0
    for coefficient in poly[::-1]:
        value = products[value] ^ coefficient
    return value


def divide(poly, divisor):
    """Returns the pair of the quotient and the rest of two polynomials."""
    lower = reduced(divisor)
    if lower == []:
        raise InvalidSymbol("a polynomial cannot be divided by 0")
    leading = inverse(lower[-1])
    rest = list(poly)
    quotient = [0] * len(poly)
    for shift in range(len(poly) - len(lower), -1, -1):
        factor = multiply(rest[shift + len(lower) - 1], leading)
        quotient[shift] = factor
        for at, coefficient in enumerate(scaled(lower, factor), shift):
            rest[at] ^= coefficient
    return reduced(quotient), reduced(rest)


def interpolate(points):
    """Returns the polynomial of the least degree that takes the values at the points."""
    poly = []
    # The product of x minus each point so far changes nothing at these points.
    zeros = [1]
    for point, value in points:
        growth = evaluate(zeros, point)
        if growth == 0:
            raise InvalidSymbol("a point stands twice")
        missing = value ^ evaluate(poly, point)
        poly = add_polynomials(poly, scaled(zeros, multiply(missing, inverse(growth))))
        zeros = multiply_polynomials(zeros, [point, 1])
    return poly
