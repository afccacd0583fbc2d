"""Fractions as tuples (above, below), told in lowest terms."""

from math import gcd

NOTHING = (0, 1)


def lowest(above, below):
    """The fraction in lowest terms; below is at least 1."""
    shared = gcd(above, below)
    return (above // shared, below // shared)


def plus(one, other):
    """The sum of two fractions."""
    return lowest(one[0] * other[1] + other[0] * one[1], one[1] * other[1])


def times(one, other):
    """The product of two fractions."""
    return lowest(one[0] * other[0], one[1] * other[1])


def over(one, other):
    """The first fraction over the second one, which is above 0."""
    return lowest(one[0] * other[1], one[1] * other[0])


def is_at_most(one, other):
    """Whether the first fraction is at most as great as the second one."""
    return one[0] * other[1] <= other[0] * one[1]


def total(fractions):
    """The sum of a list of fractions."""
    found = NOTHING
    for fraction in fractions:
        found = plus(found, fraction)
    return found


def greatest_of(fractions):
    """The greatest of a list of fractions, one or more."""
    found = fractions[0]
    for fraction in fractions:
        if not is_at_most(fraction, found):
            found = fraction
    return found
