"""Ratios: pairs (top, bottom) of integers in lowest terms, the bottom from 1 on."""

from math import gcd

from juststeps.errors import BadRatio, ZeroBottom
from juststeps.names import is_integer, is_tuple


def is_ratio(thing):
    """Whether any object is a ratio."""
    if not is_tuple(thing, 2, 2) or not is_integer(thing[0]) or not is_integer(thing[1]):
        return False
    return thing[1] >= 1 and gcd(thing[0], thing[1]) == 1


def ratio(top, bottom):
    """The quotient of two integers."""
    if bottom == 0:
        raise ZeroBottom("the bottom of a ratio is not 0")
    common = gcd(top, bottom)
    if bottom < 0:
        common = -common
    return top // common, bottom // common


def plus(a, b):
    """The sum of two ratios."""
    _need_both(a, b)
    return ratio(a[0] * b[1] + b[0] * a[1], a[1] * b[1])


def minus(a, b):
    """The difference of two ratios."""
    _need_both(a, b)
    return ratio(a[0] * b[1] - b[0] * a[1], a[1] * b[1])


def product(a, b):
    """The product of two ratios."""
    _need_both(a, b)
    return ratio(a[0] * b[0], a[1] * b[1])


def quotient(a, b):
    """The quotient of two ratios."""
    _need_both(a, b)
    return ratio(a[0] * b[1], a[1] * b[0])


def below(a, b):
    """Whether a is less than b."""
    _need_both(a, b)
    return a[0] * b[1] < b[0] * a[1]


def _need_both(a, b):
    if not is_ratio(a) or not is_ratio(b):
        raise BadRatio("two ratios are wanted")
