"""Ratios: pairs of integers without a common divisor, the second one above 0."""

from math import gcd, lcm

from scatterbooks.checks import is_whole


def ratio(numerator, denominator):
    """The ratio of an integer and one above 0."""
    common = gcd(numerator, denominator)
    return (numerator // common, denominator // common)


def is_ratio(value):
    """Whether a value is a ratio."""
    if not isinstance(value, tuple) or len(value) != 2:
        return False
    numerator, denominator = value
    if not is_whole(numerator) or not is_whole(denominator):
        return False
    return denominator > 0 and gcd(numerator, denominator) == 1


def is_shares(value, count):
    """Whether a value is a tuple of so many ratios not below 0."""
    if not isinstance(value, tuple) or len(value) != count:
        return False
    return all(is_ratio(item) and item[0] >= 0 for item in value)


def brought_together(shares):
    """The list of the integers that some ratios are with one denominator, and this denominator."""
    unit = 1
    for _, denominator in shares:
        unit = lcm(unit, denominator)
    return [numerator * (unit // denominator) for numerator, denominator in shares], unit
