"""Judging what kind of value a thing is, and the fractions."""

from math import gcd


def is_integer(thing):
    """Whether a thing is an integer; a flag is none."""
    return isinstance(thing, int) and not isinstance(thing, bool)


def is_integer_from(thing, low, high):
    """Whether a thing is an integer from low to high."""
    return is_integer(thing) and low <= thing <= high


def is_tuple_of(thing, many):
    """Whether a thing is a tuple of so many things."""
    return isinstance(thing, tuple) and len(thing) == many


def is_integers(thing, many):
    """Whether a thing is a tuple of so many integers."""
    return is_tuple_of(thing, many) and all([is_integer(item) for item in thing])


def is_word(thing, words):
    """Whether a thing is one of these words."""
    return isinstance(thing, str) and thing in words


def is_fraction(thing):
    """Whether a thing is a fraction: a pair of a top and a bottom without a common divisor."""
    return is_integers(thing, 2) and thing[1] >= 1 and gcd(thing[0], thing[1]) == 1


def lowest(top, bottom):
    """The fraction that is worth top by bottom; the bottom is from 1 on."""
    common = gcd(top, bottom)
    return (top // common, bottom // common)


def is_less(one, other):
    """Whether the one fraction is less than the other one."""
    return one[0] * other[1] < other[0] * one[1]
