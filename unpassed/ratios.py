"""Fractions as pairs of integers in least terms."""

from math import gcd

from unpassed.kinds import is_whole


def least_terms(above, below):
    """The fraction ([A3]) that is above by below; below is at least 1."""
    common = gcd(above, below)
    return above // common, below // common


def is_fraction(above, below):
    """Whether two values are integers that make a fraction ([A3])."""
    return is_whole(above) and is_whole(below) and below >= 1 and gcd(above, below) == 1


def is_below(one, other):
    """Whether a fraction is less than another one."""
    return one[0] * other[1] < other[0] * one[1]
