"""Fractions: pairs of a numerator and a positive denominator in lowest terms."""

from math import gcd, lcm


def lowest(num, den):
    """Returns num / den as a fraction; den is positive."""
    common = gcd(num, den)
    return num // common, den // common


def plus(a, b):
    """Returns the sum of two fractions."""
    return lowest(a[0] * b[1] + b[0] * a[1], a[1] * b[1])


def minus(a, b):
    """Returns the difference of two fractions."""
    return lowest(a[0] * b[1] - b[0] * a[1], a[1] * b[1])


def times(a, b):
    """Returns the product of two fractions."""
    return lowest(a[0] * b[0], a[1] * b[1])


def below(a, b):
    """Returns True if a is less than b, otherwise False."""
    return a[0] * b[1] < b[0] * a[1]


def greater(a, b):
    """Returns the greater one of two fractions."""
    return b if below(a, b) else a


def mean(num, den, a, b):
    """Returns num / den times a plus (den - num) / den times b."""
    return plus(times(lowest(num, den), a), times(lowest(den - num, den), b))


def whole_numbers(fractions):
    """Returns the list of integers in the same proportion as fractions."""
    common = 1
    for _, den in fractions:
        common = lcm(common, den)
    return [num * (common // den) for num, den in fractions]
