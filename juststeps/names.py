"""Judges of integers, tuples, names and kinds, each of which takes any object."""

WHOLE = "whole"
WORDS = ("def", "else", "give", "if", "kind", "let", "match", "whole")
MOST_SIGNS = 10
MOST_NUMBER = 10 ** 12
MOST_FACTOR = 10 ** 6
MOST_FUNCTIONS = 12
MOST_PARAMS = 6


def is_integer(thing):
    """Whether the thing is an integer; a truth is none."""
    return isinstance(thing, int) and not isinstance(thing, bool)


def is_between(thing, least, most):
    """Whether the thing is an integer from least to most."""
    return is_integer(thing) and least <= thing <= most


def is_number(thing):
    """Whether the thing may stand in a num."""
    return is_between(thing, -MOST_NUMBER, MOST_NUMBER)


def is_factor(thing):
    """Whether the thing may stand in a times."""
    return is_between(thing, -MOST_FACTOR, MOST_FACTOR)


def is_tuple(thing, least, most):
    """Whether the thing is a tuple of least to most entries."""
    return isinstance(thing, tuple) and least <= len(thing) <= most


def is_name(thing):
    """Whether the thing is a name, low or high."""
    if not isinstance(thing, str) or not 1 <= len(thing) <= MOST_SIGNS:
        return False
    return thing.isascii() and thing.isalnum() and thing[0].isalpha() and thing not in WORDS


def is_low(thing):
    """Whether the thing is a name that begins with a small letter."""
    return is_name(thing) and thing[0].islower()


def is_high(thing):
    """Whether the thing is a name that begins with a capital letter."""
    return is_name(thing) and thing[0].isupper()


def is_kind(thing):
    """Whether the thing has the form of a kind, be there such a kind or not."""
    return isinstance(thing, str) and (thing == WHOLE or is_high(thing))


def first_word(thing):
    """The word with which a tuple begins; the empty str for any other object."""
    if isinstance(thing, tuple) and thing and isinstance(thing[0], str):
        return thing[0]
    return ""
