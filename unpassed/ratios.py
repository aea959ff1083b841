"""Fractions as pairs of integers in least terms."""

from math import gcd


def least_terms(above, below):
    """The fraction ([A3]) that is above by below; below is at least 1."""
    common = gcd(above, below)
    return above // common, below // common
